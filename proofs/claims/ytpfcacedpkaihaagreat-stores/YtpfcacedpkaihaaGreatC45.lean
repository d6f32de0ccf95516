import Derived.Test.YtpfcacedpkaihaaGreatC44
namespace Go.Proofs.YtpfcacedpkaihaaGreat
open Go.RowKit
set_option maxRecDepth 100000
set_option maxHeartbeats 16000000
theorem NoteG.card {w : World} {i : Nat} {e : NoteE} (h : NoteG shC w i e) : Card w e ∧ CardTo w e ((digitN i 0 : Nat) : Int) 4 0 := by
 have key : ∀ k, k < 4 → ∀ t, t < e.m + k → ∃ g, e.ad k = some ⟨g, 0, none⟩ ∧ ∃ c, Blk w g 5 c ∧ c[t]? = some (.int .u8 ((digitN i 0 : Nat) : Int)) := fun k hk t ht => by
  obtain ⟨g, e1, c, hb, hc⟩ := h.mark k hk t ht
  have h0 : c[t * 1 + 0]? = some (.int .u8 ((digitN i 0 : Nat) : Int)) := hc 0 (by decide)
  rw [Nat.mul_one, Nat.add_zero] at h0
  exact ⟨g, e1, c, hb, h0⟩
 refine ⟨⟨h.blk, fun k hk h0 => ?_, h.small⟩, fun k hk t ht _ => key k hk t ht⟩
 obtain ⟨g, e1, c, hb, hc⟩ := key k hk (e.m + k - 1) (by omega)
 have := (Array.getElem?_eq_some_iff.mp hc).1
 exact ⟨g, e1, c, hb, by omega⟩
theorem Card.note {w : World} {i : Nat} {e : NoteE} (h : Card w e) (hd : CardTo w e ((digitN i 0 : Nat) : Int) 4 0) : NoteG shC w i e := by
 refine ⟨h.blk, fun k hk t ht => ?_, h.small⟩
 obtain ⟨g, e1, c, hb, hc⟩ := hd k hk t ht (.inl hk)
 refine ⟨g, e1, c, hb, fun f hf => ?_⟩
 have hf0 : f = 0 := by have : f < 1 := hf; omega
 subst hf0
 show c[t * 1 + 0]? = _
 rw [Nat.mul_one, Nat.add_zero, hc]
 rfl
def numX (ns : List NoteE) (k : Nat) : Prop := ∃ x ∈ ns, noteB x k
structure NumSt (w wr : World) (ns : List NoteE) (d i : Nat) : Prop where
 kept : Kept (numX ns) w wr
 card : ∀ j (h : j < ns.length), Card wr ns[j]
 done : ∀ j (h : j < ns.length), j < i → CardTo wr ns[j] ((digitN j d : Nat) : Int) 4 0
theorem NumSt.more {w wr W : World} {ns : List NoteE} {d i : Nat} (h : NumSt w wr ns d i) (k : Kept (fun _ => False) wr W) : NumSt w W ns d i :=
 ⟨h.kept.trans k (fun _ => id) (fun _ _ => False.elim), fun j hj => (h.card j hj).kept k, fun j hj hi => (h.done j hj hi).same fun b hb => k.block b ((h.card j hj).lt b (.inr hb)) id⟩
theorem NumSt.none {w wr : World} {ns : List NoteE} {d i : Nat} (h : NumSt w wr ns d i) (d' : Nat) : NumSt w wr ns d' 0 := ⟨h.kept, h.card, fun j hj hi => by omega⟩
theorem NumSt.next {w wr w' : World} {ns : List NoteE} {d i : Nat} (ha : ∀ i j (hi : i < ns.length) (hj : j < ns.length), i ≠ j → ∀ b, noteB ns[i] b → ¬ noteB ns[j] b) (h : NumSt w wr ns d i) (hi : i < ns.length) (hO : COver wr w' ns[i] ((digitN i d : Nat) : Int) 4 0) : NumSt w w' ns d (i + 1) := by
 have hsame : ∀ j (hj : j < ns.length), j ≠ i → ∀ b, (b = (ns[j]).N ∨ noteB ns[j] b) → w'.heap[b]? = wr.heap[b]? := by
  intro j hj hji b hb
  refine hO.kept.block b ((h.card j hj).lt b hb) fun hbi => ?_
  rcases hb with rfl | hb
  · obtain ⟨c, hc⟩ := (h.card i hi).elem hbi
    exact absurd (hc.type (h.card j hj).blk).1 (by decide)
  · exact ha i j hi hj (fun e => hji e.symm) b hbi hb
 refine ⟨h.kept.trans hO.kept (fun _ => id) (fun k _ hk => ⟨_, List.getElem_mem hi, hk⟩), fun j hj => ?_, fun j hj hji => ?_⟩
 · by_cases e : j = i
   · subst e; exact hO.card
   · exact (h.card j hj).same (hsame j hj e)
 · by_cases e : j = i
   · subst e; exact hO.done
   · exact (h.done j hj (by omega)).same fun b hb => hsame j hj e b (.inr hb)
theorem lnumbers (w : World) (pb : Nat) (b2 : Value) (ns : List NoteE) (hok : BookG shC w b2 ns) (hn : ns.length ≤ 4611686018427387904) (h3 : w.cell? ⟨pb, 3, none⟩ = some b2) (hpb : ¬ numX ns pb) :
 Calls Tryz.prog 22 #[.pointer (some ⟨pb, 1, none⟩)] w fun e w' => WholePost w b2 ns e w' := by
 obtain ⟨ba, bc, hbf, hba⟩ := hok.row.form
 subst hbf
 have hu8 : ∀ k, numX ns k → ∃ c, Blk w k 5 c := by
  rintro k ⟨x, hx, hk⟩
  obtain ⟨i, hi, rfl⟩ := List.getElem_of_mem hx
  exact (hok.each i hi).elem hk
 have hrow : ∀ W, Kept (numX ns) w W → Row W 114 1 (.slice ba ns.length bc) ns.length (ns.map noteV) := fun W hW => hok.row.kept hW fun j hj hjx => by
  obtain ⟨c, hc⟩ := hu8 j hjx
  exact hok.row.ne_block hc (by decide) hj
 have HPB : Hid (∀ W, Kept (numX ns) w W → W.cell? ⟨pb, 3, none⟩ = some (.slice ba ns.length bc)) := fun W hW => hW.keep hpb h3
 have HG : Hid (∀ i (hi : i < ns.length), ∃ g, ba = some ⟨g, 0, none⟩ ∧ ∀ W, Kept (numX ns) w W → W.cell? ⟨g, i, none⟩ = some (.slice (some ⟨(ns[i]).N, 0, none⟩) 4 4)) := by
  intro i hi
  obtain ⟨g, cap, hs, hog, _⟩ := hok.row.block (by omega)
  injection hs with hs1 _ _
  exact ⟨g, hs1, fun W hW => (hrow W hW).cell hog i _ (by rw [List.getElem?_map, List.getElem?_eq_getElem hi]; rfl)⟩
 have HS0 : Hid (NumSt w w ns 0 ns.length) := ⟨Kept.refl _ _, fun j hj => (hok.each j hj).card.1, fun j hj _ => (hok.each j hj).card.2⟩
 have HAP : Hid (∀ i j (hi : i < ns.length) (hj : j < ns.length), i ≠ j → ∀ b, noteB ns[i] b → ¬ noteB ns[j] b) := hok.apart
 have HEND : Hid (∀ W, NumSt w W ns 0 ns.length → WholePost w (.slice ba ns.length bc) ns (.returned (.bool true)) W) := fun W hW => ⟨rfl, ⟨hrow W hW.kept, fun i hi => (hW.card i hi).note (hW.done i hi hi), hok.apart⟩, hW.kept⟩
 have HDG : Hid (∀ (W : World) (i d : Nat), i < ns.length → d ≤ 3 → Calls Tryz.prog 68 #[.int .i64 i, .int .i64 d] W fun e w' => e = .returned (.int .u8 ((digitN i d : Nat) : Int)) ∧ W = w') := fun W i d hi hd => rdigit W i d (by omega) hd
 have HRD : Hid (∀ (wr W : World) (i d : Nat) (hi : i < ns.length), NumSt w wr ns d ns.length → Kept (fun _ => False) wr W → Calls Tryz.prog 67 #[.slice (some ⟨(ns[i]).N, 0, none⟩) 4 4, .int .u8 ((digitN i d : Nat) : Int)] W fun e w' => e = .returned (.bool true) ∧ W = w') := fun wr W i d hi hS hW => lreads W ns[i] _ ((hS.more hW).card i hi) ((hS.more hW).done i hi hi)
 have HWR : Hid (∀ (wr W : World) (i d : Nat) (hi : i < ns.length), NumSt w wr ns d i → Kept (fun _ => False) wr W → Calls Tryz.prog 69 #[.slice (some ⟨(ns[i]).N, 0, none⟩) 4 4, .int .u8 ((digitN i d : Nat) : Int)] W fun e w' => e = .returned (.tuple #[]) ∧ Hid (NumSt w w' ns d (i + 1))) := fun wr W i d hi hS hW => (lwrite W ns[i] _ ((hS.more hW).card i hi)).mono fun e w' hp => ⟨hp.1, (hS.more hW).next HAP.out hi hp.2.out⟩
 clear hok h3 hpb hba hu8 hrow
 go_enter Tryz.func22, Tryz.ntmps22
 go_wp2
 go_loopw [3] (fun iv wr => ∃ i : Nat, i ≤ ns.length ∧ iv = .int .i64 i ∧ Hid (NumSt w wr ns 0 ns.length)) (fun iv _ => ns.length - (intOf iv).toNat)
 case atStart => exact ⟨0, Nat.zero_le _, rfl, HS0⟩
 case round =>
  obtain ⟨i, hi, rfl, HS⟩ := hrel
  have c3 : wr.cell? ⟨pb, 3, none⟩ = some (.slice ba ns.length bc) := HPB.out wr HS.out.kept
  by_cases hlt : i < ns.length
  · obtain ⟨g, hg, hgc⟩ := HG.out i hlt
    have cg := hgc wr HS.out.kept
    subst hg
    have hi0 : (0 : Int) ≤ (i : Int) := by omega
    have hi1 : (i : Int) < (ns.length : Int) := by omega
    obtain ⟨z, hz⟩ : ∃ z, z = ((digitN i 0 : Nat) : Int) := ⟨_, rfl⟩
    have HD1 : Hid (∀ W, Calls Tryz.prog 68 #[.int .i64 (i : Int), .int .i64 0] W fun e w' => e = .returned (.int .u8 z) ∧ W = w') := fun W => by rw [hz]; exact HDG.out W i 0 hlt (by omega)
    have HR1 : Hid (∀ W, Kept (fun _ => False) wr W → Calls Tryz.prog 67 #[.slice (some ⟨(ns[i]).N, 0, none⟩) 4 4, .int .u8 z] W fun e w' => e = .returned (.bool true) ∧ W = w') := fun W hW => by rw [hz]; exact HRD.out wr W i 0 hlt HS.out hW
    generalize (ns[i]).N = N0 at cg HR1
    clear hgc hz
    go_wp2_with fail
    go_region_with first
     | (go_at_call 68; refine (HD1.out _).mono ?_; rintro e w1 ⟨rfl, rfl⟩)
     | (go_at_call 67; refine (HR1.out _ ((Kept.refl _ _).drewN _)).mono ?_; rintro e w2 ⟨rfl, rfl⟩)
    all_goals
     go_wp2
     go_roundw
     case rel => exact ⟨i + 1, by omega, by go_num, HS.out.more ((Kept.refl _ _).drewN _)⟩
     case measure => simp [intOf]; omega
  · have hii : i = ns.length := by omega
    subst hii
    go_wp2
    go_loopw [5] (fun dv wr => ∃ D : Nat, D ≤ 4 ∧ dv = .int .i64 ((D : Int) - 1) ∧ ∃ q, (D = 0 → q = 0) ∧ Hid (NumSt w wr ns q ns.length)) (fun dv _ => (intOf dv + 1).toNat)
    case atStart => exact ⟨4, by omega, rfl, 0, fun _ => rfl, HS⟩
    case round =>
     obtain ⟨D, hD, rfl, q, hq, HQ⟩ := hrel
     by_cases hD0 : D = 0
     · subst hD0
       have hq0 := hq rfl
       subst hq0
       go_wp2
       go_ret
       exact HEND.out _ HQ.out
     · obtain ⟨d, rfl⟩ : ∃ d, D = d + 1 := ⟨D - 1, by omega⟩
       have hdI : ((d + 1 : Nat) : Int) - 1 = (d : Int) := by omega
       rw [hdI]
       have hd3 : d ≤ 3 := by omega
       clear hq
       go_wp2
       go_loopw [6] (fun iv wr => ∃ i : Nat, i ≤ ns.length ∧ iv = .int .i64 i ∧ Hid (NumSt w wr ns d i)) (fun iv _ => ns.length - (intOf iv).toNat)
       case atStart => exact ⟨0, Nat.zero_le _, rfl, HQ.out.none d⟩
       case round =>
        obtain ⟨i, hi, rfl, HS⟩ := hrel
        have c3 : wr.cell? ⟨pb, 3, none⟩ = some (.slice ba ns.length bc) := HPB.out wr HS.out.kept
        by_cases hlt : i < ns.length
        · obtain ⟨g, hg, hgc⟩ := HG.out i hlt
          have cg := hgc wr HS.out.kept
          subst hg
          have hi0 : (0 : Int) ≤ (i : Int) := by omega
          have hi1 : (i : Int) < (ns.length : Int) := by omega
          obtain ⟨z, hz⟩ : ∃ z, z = ((digitN i d : Nat) : Int) := ⟨_, rfl⟩
          have HD1 : Hid (∀ W, Calls Tryz.prog 68 #[.int .i64 (i : Int), .int .i64 (d : Int)] W fun e w' => e = .returned (.int .u8 z) ∧ W = w') := fun W => by rw [hz]; exact HDG.out W i d hlt hd3
          have HR1 : Hid (∀ W, Kept (fun _ => False) wr W → Calls Tryz.prog 69 #[.slice (some ⟨(ns[i]).N, 0, none⟩) 4 4, .int .u8 z] W fun e w' => e = .returned (.tuple #[]) ∧ Hid (NumSt w w' ns d (i + 1))) := fun W hW => by rw [hz]; exact HWR.out wr W i d hlt HS.out hW
          generalize (ns[i]).N = N0 at cg HR1
          clear hgc hz
          go_wp2_with fail
          go_region_with first
           | (go_at_call 68; refine (HD1.out _).mono ?_; rintro e w1 ⟨rfl, rfl⟩)
           | (go_at_call 69; refine (HR1.out _ ((Kept.refl _ _).drewN _)).mono ?_; rintro e w2 ⟨rfl, HW2⟩)
          all_goals
           go_wp2
           go_roundw
           case rel => exact ⟨i + 1, by omega, by go_num, HW2⟩
           case measure => simp [intOf]; omega
        · have hii : i = ns.length := by omega
          subst hii
          go_wp2
          go_loopw [7] (fun iv wr => ∃ i : Nat, i ≤ ns.length ∧ iv = .int .i64 i ∧ Hid (NumSt w wr ns d ns.length)) (fun iv _ => ns.length - (intOf iv).toNat)
          case atStart => exact ⟨0, Nat.zero_le _, rfl, HS⟩
          case round =>
           obtain ⟨i, hi, rfl, HS⟩ := hrel
           have c3 : wr.cell? ⟨pb, 3, none⟩ = some (.slice ba ns.length bc) := HPB.out wr HS.out.kept
           by_cases hlt : i < ns.length
           · obtain ⟨g, hg, hgc⟩ := HG.out i hlt
             have cg := hgc wr HS.out.kept
             subst hg
             have hi0 : (0 : Int) ≤ (i : Int) := by omega
             have hi1 : (i : Int) < (ns.length : Int) := by omega
             obtain ⟨z, hz⟩ : ∃ z, z = ((digitN i d : Nat) : Int) := ⟨_, rfl⟩
             have HD1 : Hid (∀ W, Calls Tryz.prog 68 #[.int .i64 (i : Int), .int .i64 (d : Int)] W fun e w' => e = .returned (.int .u8 z) ∧ W = w') := fun W => by rw [hz]; exact HDG.out W i d hlt hd3
             have HR1 : Hid (∀ W, Kept (fun _ => False) wr W → Calls Tryz.prog 67 #[.slice (some ⟨(ns[i]).N, 0, none⟩) 4 4, .int .u8 z] W fun e w' => e = .returned (.bool true) ∧ W = w') := fun W hW => by rw [hz]; exact HRD.out wr W i d hlt HS.out hW
             generalize (ns[i]).N = N0 at cg HR1
             clear hgc hz
             go_wp2_with fail
             go_region_with first
              | (go_at_call 68; refine (HD1.out _).mono ?_; rintro e w1 ⟨rfl, rfl⟩)
              | (go_at_call 67; refine (HR1.out _ ((Kept.refl _ _).drewN _)).mono ?_; rintro e w2 ⟨rfl, rfl⟩)
             all_goals
              go_wp2
              go_roundw
              case rel => exact ⟨i + 1, by omega, by go_num, HS.out.more ((Kept.refl _ _).drewN _)⟩
              case measure => simp [intOf]; omega
           · have hii : i = ns.length := by omega
             subst hii
             go_wp2
             go_roundw
             case rel => exact ⟨d, by omega, by go_num, d, fun h => h, HS⟩
             case measure => simp [intOf]
theorem WholePost.from {w W w' : World} {b2 : Value} {nC : List NoteE} {e : Ending} (h : WholePost W b2 nC e w') (k : Kept (fun _ => False) w W) : WholePost w b2 nC e w' :=
 ⟨h.1, h.2.1, k.trans h.2.2 (fun _ => False.elim) (fun _ _ h => h)⟩
theorem lwhole2 (w : World) (pb : Nat) (vps bv b2 : Value) (commits most : Int) (nA nC : List NoteE) (hblk : Blk w pb 34 (playC vps bv nilV b2 commits most)) (hA : BookG shE w bv nA) (hC : BookG shC w b2 nC) (la : nA.length ≤ 4611686018427387904) (lc : nC.length ≤ 4611686018427387904) :
 Calls Tryz.prog 10 #[.pointer (some ⟨pb, 1, none⟩)] w fun e w' => WholePost w b2 nC e w' := by
 obtain ⟨ba0, bc0, hb0, _⟩ := hA.row.form
 subst hb0
 have HN : Hid (∀ W, Kept (fun _ => False) w W → Calls Tryz.prog 22 #[.pointer (some ⟨pb, 1, none⟩)] W fun e w' => e = .returned (.bool true) ∧ Hid (WholePost w b2 nC (.returned (.bool true)) w')) := fun W hk => by
  refine (lnumbers W pb b2 nC (hC.kept hk fun _ _ => id) lc (hk.keep id (hblk.cell 3)) ?_).mono fun e w' hp => ?_
  · rintro ⟨x, hx, hj⟩
    obtain ⟨i, hi, rfl⟩ := List.getElem_of_mem hx
    obtain ⟨c, hc⟩ := (hC.each i hi).elem hj
    exact absurd (hblk.type hc).1 (by decide)
  · have e1 := hp.1
    subst e1
    exact ⟨rfl, hp.from hk⟩
 have HOK0 : Hid (BookG shE w (.slice ba0 nA.length bc0) nA) := hA
 have H0 : Hid (w.cell? ⟨pb, 1, none⟩ = some (.slice ba0 nA.length bc0)) := hblk.cell 1
 have H1 : Hid (w.cell? ⟨pb, 2, none⟩ = some (.slice none 0 0)) := hblk.cell 2
 clear hblk hA hC
 go_enter Tryz.func10, Tryz.ntmps10
 go_wp2
 go_loopw [3] (fun iv wr => ∃ i : Nat, i ≤ nA.length ∧ iv = .int .i64 i ∧ Hid (Kept (fun _ => False) w wr)) (fun iv _ => nA.length - (intOf iv).toNat)
 case atStart => exact ⟨0, Nat.zero_le _, rfl, Kept.refl _ _⟩
 case round =>
  obtain ⟨i, hi, rfl, HK⟩ := hrel
  have c0 : wr.cell? ⟨pb, 1, none⟩ = some (.slice ba0 nA.length bc0) := HK.out.keep id H0.out
  by_cases hlt : i < nA.length
  · obtain ⟨e, he⟩ : ∃ e, e = nA[i] := ⟨_, rfl⟩
    obtain ⟨g, cap, hs, hog, hgl⟩ := HOK0.out.row.block (by omega)
    injection hs with hs1 hs2 hs3
    subst hs1
    have hmem : e ∈ nA := by rw [he]; exact List.getElem_mem hlt
    have HX : Hid (∀ b, (b = e.N ∨ noteB e b) → b < w.heap.size) := fun b hb => HOK0.out.lt b (.inr ⟨e, hmem, hb⟩)
    have HE : Hid (NoteG shE w i e) := by rw [he]; exact HOK0.out.each i hlt
    have HG : Hid (w.cell? ⟨g, i, none⟩ = some (.slice (some ⟨e.N, 0, none⟩) 4 4)) := HOK0.out.row.cell hog i _ (by rw [List.getElem?_map, List.getElem?_eq_getElem hlt, ← he]; rfl)
    clear hog hgl hs3 he hmem
    have hi0 : (0 : Int) ≤ (i : Int) := by omega
    have hi1 : (i : Int) < (nA.length : Int) := by omega
    go_wp2
    go_loopw [4] (fun kv wq => ∃ k : Nat, k ≤ 4 ∧ kv = .int .i64 k ∧ Hid (Kept (fun _ => False) w wq)) (fun kv _ => 4 - (intOf kv).toNat)
    case atStart => exact ⟨0, Nat.zero_le _, rfl, HK.out⟩
    case round =>
     obtain ⟨k, hk, rfl, HKQ⟩ := hrel
     have d0 : wr.cell? ⟨pb, 1, none⟩ = some (.slice (some ⟨g, 0, none⟩) nA.length bc0) := HKQ.out.keep id H0.out
     have d1 : wr.cell? ⟨g, i, none⟩ = some (.slice (some ⟨e.N, 0, none⟩) 4 4) := HKQ.out.keep id HG.out
     by_cases hk4 : k < 4
     · have d2 : wr.cell? ⟨e.N, k, none⟩ = some (.slice (e.ad k) (e.m + k) (e.cp k)) := HKQ.out.keep id (by rw [HE.out.blk.cell]; exact four_at _ _ _ k hk4)
       have hk0 : (0 : Int) ≤ (k : Int) := by omega
       have hk1 : (k : Int) < 4 := by omega
       have HM : Hid (∀ W, W.cell? ⟨pb, 1, none⟩ = some (.slice (some ⟨g, 0, none⟩) nA.length bc0) ∧ W.cell? ⟨g, i, none⟩ = some (.slice (some ⟨e.N, 0, none⟩) 4 4) ∧ W.cell? ⟨e.N, k, none⟩ = some (.slice (e.ad k) (e.m + k) (e.cp k)) → Calls Tryz.prog 19 #[.int .i64 (i : Int)] W fun z w' => z = .returned (.agg #[.string mq, .int .i32 0, .int .u64 0, .int .u64 (i : Int), .bool false, .int .u64 0]) ∧ w'.cell? ⟨pb, 1, none⟩ = some (.slice (some ⟨g, 0, none⟩) nA.length bc0) ∧ w'.cell? ⟨g, i, none⟩ = some (.slice (some ⟨e.N, 0, none⟩) 4 4) ∧ w'.cell? ⟨e.N, k, none⟩ = some (.slice (e.ad k) (e.m + k) (e.cp k)) ∧ Hid (Kept (fun _ => False) W w')) :=
        fun W hW => (rentryMark W i (by omega)).mono fun _ _ hp => ⟨hp.1, hp.2.keep id hW.1, hp.2.keep id hW.2.1, hp.2.keep id hW.2.2, hp.2⟩
       have HQ : Hid (∀ W, Kept (fun _ => False) w W → Calls Tryz.prog 18 #[.slice (e.ad k) (e.m + k) (e.cp k), .agg #[.string mq, .int .i32 0, .int .u64 0, .int .u64 (i : Int), .bool false, .int .u64 0]] W fun z w' => z = .returned (.bool true) ∧ Hid (Kept (fun _ => False) w w')) :=
        fun W hW => (rmarked_note (HE.out.same fun b hb => hW.block b (HX.out b hb) id).ok hk4).mono fun _ _ hp => ⟨hp.1, hW.trans hp.2 (fun _ => id) (fun _ _ => id)⟩
       go_wp2_with fail
       go_region_with first
        | (go_at_call 19; refine (HM.out _ ?_).mono ?_; (simp [*]); rintro z w1 ⟨rfl, y0, y1, y2, HW1⟩)
        | (go_at_call 18; refine (HQ.out _ ((HKQ.out.drewN _).trans HW1.out (fun _ => id) (fun _ _ => id))).mono ?_; rintro z w2 ⟨rfl, HW2⟩)
       all_goals
        go_wp2
        go_roundw
        case rel => exact ⟨k + 1, by omega, by go_num, HW2⟩
        case measure => simp [intOf]; omega
     · have hkk : k = 4 := by omega
       subst hkk
       go_wp2
       go_roundw
       case rel => exact ⟨i + 1, by omega, by go_num, HKQ⟩
       case measure => simp [intOf]; omega
  · have hii : i = nA.length := by omega
    subst hii
    go_wp2
    refine wp_loop_rounds 1 ?_
    rw [rounds_succ]
    have c1 : wr.cell? ⟨pb, 2, none⟩ = some (.slice none 0 0) := HK.out.keep id H1.out
    go_wp2_with (go_at_call 22; refine (HN.out _ HK.out).mono ?_; rintro z w' ⟨rfl, HZ⟩)
    go_ret
    exact HZ.out
end Go.Proofs.YtpfcacedpkaihaaGreat
