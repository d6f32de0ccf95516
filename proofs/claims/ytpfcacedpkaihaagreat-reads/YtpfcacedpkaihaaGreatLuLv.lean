import Derived.Test.YtpfcacedpkaihaaGreatLqLrLsLt
import Derived.Test.YtpfcacedpkaihaaGreatLmOsLcBa
import Derived.Deep.RegionWith
/- The law's whole (package almanaclaw) over lists that read as their owners wrote them, walked. -/
namespace Go.Proofs.YtpfcacedpkaihaaGreat
open Go.RowKit

/-- a list that came out, and the same with one, two and three more. -/
structure NoteE where
  N : Nat
  m : Nat
  ad : Nat → Option Addr
  cp : Nat → Nat
def noteV (e : NoteE) : Value := .slice (some ⟨e.N, 0, none⟩) 4 4
structure NoteOk (w : World) (i : Nat) (e : NoteE) : Prop where
  blk : Blk w e.N 51 (fourC e.m e.ad e.cp)
  mark : ∀ k, k < 4 → ∀ t, t < e.m + k → ∃ g, e.ad k = some ⟨g, 0, none⟩ ∧ Mk i w g t
  small : e.m ≤ 1000
structure BookOk (w : World) (bv : Value) (notes : List NoteE) : Prop where
  row : Row w 49 1 bv notes.length (notes.map noteV)
  each : ∀ i (h : i < notes.length), NoteOk w i notes[i]

/-- the blocks of a book. -/
def bookX (bv : Value) (notes : List NoteE) (b : Nat) : Prop := bv.ownBlock = some b ∨ ∃ e ∈ notes, b = e.N ∨ ∃ k, k < 4 ∧ 0 < e.m + k ∧ e.ad k = some ⟨b, 0, none⟩

theorem NoteOk.same {w w' : World} {i : Nat} {e : NoteE} (h : NoteOk w i e) (hs : ∀ b, (b = e.N ∨ ∃ k, k < 4 ∧ 0 < e.m + k ∧ e.ad k = some ⟨b, 0, none⟩) → w'.heap[b]? = w.heap[b]?) : NoteOk w' i e := by
  refine ⟨h.blk.same (hs _ (.inl rfl)), fun k hk t ht => ?_, h.small⟩
  obtain ⟨g, e1, e2⟩ := h.mark k hk t ht
  exact ⟨g, e1, e2.same (hs g (.inr ⟨k, hk, by omega, e1⟩))⟩
theorem BookOk.same {w w' : World} {bv : Value} {notes : List NoteE} (h : BookOk w bv notes) (hs : ∀ b, bookX bv notes b → w'.heap[b]? = w.heap[b]?) : BookOk w' bv notes :=
  ⟨h.row.same fun b hb => hs b (.inl hb), fun i hi => (h.each i hi).same fun b hb => hs b (.inr ⟨_, List.getElem_mem hi, hb⟩)⟩
theorem BookOk.lt {w : World} {bv : Value} {notes : List NoteE} (h : BookOk w bv notes) : ∀ b, bookX bv notes b → b < w.heap.size := by
  rintro b (hb | ⟨e, he, hb⟩)
  · exact h.row.lt b hb
  · obtain ⟨i, hi, rfl⟩ := List.getElem_of_mem he
    rcases hb with rfl | ⟨k, hk, h0, e1⟩
    · exact (h.each i hi).blk.lt
    · obtain ⟨g, e2, c, hb, _⟩ := (h.each i hi).mark k hk 0 h0
      rw [e1] at e2
      injection e2 with e2
      injection e2 with e2 _ _
      subst e2
      exact hb.lt
theorem BookOk.kept {w w' : World} {bv : Value} {notes : List NoteE} (h : BookOk w bv notes) (k : Kept (fun _ => False) w w') : BookOk w' bv notes := h.same fun b hb => k.block b (h.lt b hb) id

set_option maxHeartbeats 1000000 in
theorem rmarked_zero (w : World) (ao : Option Addr) (cap i : Nat) :
    Calls Tryz.prog 18 #[.slice ao 0 cap, .agg #[.string mq, .int .i32 0, .int .u64 0, .int .u64 (i : Int), .bool false, .int .u64 0]] w fun e w' => e = .returned (.bool true) ∧ Kept (fun _ => False) w w' := by
  go_enter Tryz.func18, Tryz.ntmps18
  go_wp2
  refine wp_loop_rounds 1 ?_
  rw [rounds_succ]
  go_wp2
  go_ret
  exact ⟨rfl, Kept.alloc _ _ _⟩

theorem rmarked_note {w : World} {i k : Nat} {e : NoteE} (h : NoteOk w i e) (hk : k < 4) :
    Calls Tryz.prog 18 #[.slice (e.ad k) (e.m + k) (e.cp k), .agg #[.string mq, .int .i32 0, .int .u64 0, .int .u64 (i : Int), .bool false, .int .u64 0]] w fun e w' => e = .returned (.bool true) ∧ Kept (fun _ => False) w w' := by
  by_cases h0 : 0 < e.m + k
  · obtain ⟨g, e1, c, hb, _⟩ := h.mark k hk 0 h0
    rw [e1]
    have hsm := h.small
    refine (rmarked w g (e.m + k) (e.cp k) i mq (by omega) (fun t ht => ?_) (.inr hb.lt)).mono fun _ _ hp => ⟨hp.1, Kept.of_below hp.2 _⟩
    obtain ⟨g', e2, c', hb', hc'⟩ := h.mark k hk t ht
    rw [e1] at e2
    injection e2 with e2
    injection e2 with e2 _ _
    subst e2
    have := hc' 0 (by omega)
    rw [Nat.add_zero] at this
    refine ⟨by rw [hb'.cell, this]; rfl, by rw [hb'.cell, hc' 1 (by omega)]; rfl, by rw [hb'.cell, hc' 2 (by omega)]; rfl, by rw [hb'.cell, hc' 3 (by omega)]; rfl, by rw [hb'.cell, hc' 4 (by omega)]; rfl, by rw [hb'.cell, hc' 5 (by omega)]; rfl⟩
  · have : e.m + k = 0 := by omega
    rw [this]
    exact rmarked_zero w _ _ i

end Go.Proofs.YtpfcacedpkaihaaGreat

/- The law's whole (package almanaclaw) over its notes, walked. -/
namespace Go.Proofs.YtpfcacedpkaihaaGreat
open Go.RowKit

set_option maxRecDepth 100000 in
set_option maxHeartbeats 2000000 in
theorem lwhole (w : World) (pb : Nat) (bv : Value) (notes : List NoteE) (hok : BookOk w bv notes) (hn : notes.length ≤ 4611686018427387904) (h0 : w.cell? ⟨pb, 1, none⟩ = some bv) (h1 : w.cell? ⟨pb, 2, none⟩ = some (.slice none 0 0)) (h2 : w.cell? ⟨pb, 3, none⟩ = some (.slice none 0 0)) :
    Calls Tryz.prog 10 #[.pointer (some ⟨pb, 1, none⟩)] w fun e w' => e = .returned (.bool true) ∧ Kept (fun _ => False) w w' := by
  obtain ⟨ba, bc, hbf, hba⟩ := hok.row.form
  subst hbf
  have HN : Hid (∀ W, Kept (fun _ => False) w W → Calls Tryz.prog 22 #[.pointer (some ⟨pb, 1, none⟩)] W fun e w' => e = .returned (.bool true) ∧ W = w') := fun W hk => numbers_empty W pb 1 (hk.keep id h2)
  have HOK : Hid (BookOk w (.slice ba notes.length bc) notes) := hok
  have H0 : Hid (w.cell? ⟨pb, 1, none⟩ = some (.slice ba notes.length bc)) := h0
  have H1 : Hid (w.cell? ⟨pb, 2, none⟩ = some (.slice none 0 0)) := h1
  clear hok h0 h1 h2 hba
  go_enter Tryz.func10, Tryz.ntmps10
  go_wp2
  go_loopw [3] (fun iv wr => ∃ i : Nat, i ≤ notes.length ∧ iv = .int .i64 i ∧ Hid (Kept (fun _ => False) w wr)) (fun iv _ => notes.length - (intOf iv).toNat)
  case atStart => exact ⟨0, Nat.zero_le _, rfl, Kept.refl _ _⟩
  case round =>
    obtain ⟨i, hi, rfl, HK⟩ := hrel
    have c0 : wr.cell? ⟨pb, 1, none⟩ = some (.slice ba notes.length bc) := HK.out.keep id H0.out
    by_cases hlt : i < notes.length
    · obtain ⟨e, he⟩ : ∃ e, e = notes[i] := ⟨_, rfl⟩
      obtain ⟨g, cap, hs, hog, hgl⟩ := HOK.out.row.block (by omega)
      injection hs with hs1 hs2 hs3
      subst hs1
      have hmem : e ∈ notes := by rw [he]; exact List.getElem_mem hlt
      have HX : Hid (∀ b, (b = e.N ∨ ∃ k, k < 4 ∧ 0 < e.m + k ∧ e.ad k = some ⟨b, 0, none⟩) → b < w.heap.size) := fun b hb => HOK.out.lt b (.inr ⟨e, hmem, hb⟩)
      have HE : Hid (NoteOk w i e) := by rw [he]; exact HOK.out.each i hlt
      have HG : Hid (w.cell? ⟨g, i, none⟩ = some (.slice (some ⟨e.N, 0, none⟩) 4 4)) := HOK.out.row.cell hog i _ (by rw [List.getElem?_map, List.getElem?_eq_getElem hlt, ← he]; rfl)
      clear hog hgl hs3 he hmem
      have hi0 : (0 : Int) ≤ (i : Int) := by omega
      have hi1 : (i : Int) < (notes.length : Int) := by omega
      go_wp2
      go_loopw [4] (fun kv wq => ∃ k : Nat, k ≤ 4 ∧ kv = .int .i64 k ∧ Hid (Kept (fun _ => False) w wq)) (fun kv _ => 4 - (intOf kv).toNat)
      case atStart => exact ⟨0, Nat.zero_le _, rfl, HK.out⟩
      case round =>
        obtain ⟨k, hk, rfl, HKQ⟩ := hrel
        have d0 : wr.cell? ⟨pb, 1, none⟩ = some (.slice (some ⟨g, 0, none⟩) notes.length bc) := HKQ.out.keep id H0.out
        have d1 : wr.cell? ⟨g, i, none⟩ = some (.slice (some ⟨e.N, 0, none⟩) 4 4) := HKQ.out.keep id HG.out
        by_cases hk4 : k < 4
        · have d2 : wr.cell? ⟨e.N, k, none⟩ = some (.slice (e.ad k) (e.m + k) (e.cp k)) := HKQ.out.keep id (by rw [HE.out.blk.cell]; exact four_at _ _ _ k hk4)
          have hk0 : (0 : Int) ≤ (k : Int) := by omega
          have hk1 : (k : Int) < 4 := by omega
          have HM : Hid (∀ W, W.cell? ⟨pb, 1, none⟩ = some (.slice (some ⟨g, 0, none⟩) notes.length bc) ∧ W.cell? ⟨g, i, none⟩ = some (.slice (some ⟨e.N, 0, none⟩) 4 4) ∧ W.cell? ⟨e.N, k, none⟩ = some (.slice (e.ad k) (e.m + k) (e.cp k)) → Calls Tryz.prog 19 #[.int .i64 (i : Int)] W fun z w' => z = .returned (.agg #[.string mq, .int .i32 0, .int .u64 0, .int .u64 (i : Int), .bool false, .int .u64 0]) ∧ w'.cell? ⟨pb, 1, none⟩ = some (.slice (some ⟨g, 0, none⟩) notes.length bc) ∧ w'.cell? ⟨g, i, none⟩ = some (.slice (some ⟨e.N, 0, none⟩) 4 4) ∧ w'.cell? ⟨e.N, k, none⟩ = some (.slice (e.ad k) (e.m + k) (e.cp k)) ∧ Hid (Kept (fun _ => False) W w')) :=
            fun W hW => (rentryMark W i (by omega)).mono fun _ _ hp => ⟨hp.1, hp.2.keep id hW.1, hp.2.keep id hW.2.1, hp.2.keep id hW.2.2, hp.2⟩
          have HQ : Hid (∀ W, Kept (fun _ => False) w W → Calls Tryz.prog 18 #[.slice (e.ad k) (e.m + k) (e.cp k), .agg #[.string mq, .int .i32 0, .int .u64 0, .int .u64 (i : Int), .bool false, .int .u64 0]] W fun z w' => z = .returned (.bool true) ∧ Hid (Kept (fun _ => False) w w')) :=
            fun W hW => (rmarked_note (HE.out.same fun b hb => hW.block b (HX.out b hb) id) hk4).mono fun _ _ hp => ⟨hp.1, hW.trans hp.2 (fun _ => id) (fun _ _ => id)⟩
          go_wp2_with fail
          go_region_with first
            | (go_at_call 19; refine (HM.out _ ?_).mono ?_; (simp [*]); rintro z w1 ⟨rfl, y0, y1, y2, HW1⟩)
            | (go_at_call 18; refine (HQ.out _ ((HKQ.out.drewN _).trans HW1.out (fun _ => id) (fun _ _ => id))).mono ?_; rintro z w2 ⟨rfl, HW2⟩)
          all_goals
            go_wp2
            go_roundw
            case rel => exact ⟨k + 1, by omega, by go_num, HW2⟩
            case measure => simp [intOf]; omega
        · have hkk : k = 4 := by omega
          subst hkk
          go_wp2
          go_roundw
          case rel => exact ⟨i + 1, by omega, by go_num, HKQ⟩
          case measure => simp [intOf]; omega
    · have hii : i = notes.length := by omega
      subst hii
      have c1 : wr.cell? ⟨pb, 2, none⟩ = some (.slice none 0 0) := HK.out.keep id H1.out
      go_wp2
      refine wp_loop_rounds 1 ?_
      rw [rounds_succ]
      go_wp2_with (go_at_call 22; refine (HN.out _ HK.out).mono ?_; rintro z w' ⟨rfl, rfl⟩)
      go_ret
      exact ⟨rfl, HK.out⟩

end Go.Proofs.YtpfcacedpkaihaaGreat
