/- The keeping laws' own functions (package almanackeep): writes, walked. -/
import Derived.Test.YtpfcacedpkaihabKa
namespace Go.Proofs.Ytpfcacedpkaihab
open Go.RowKit

/-- a step of a script. -/
structure StE where
  kd : Int
  b : Int
  c : Int
  s : ByteArray
  ka : Option Addr
  kn : Nat
  kc : Nat
  va : Option Addr
  vn : Nat
  vc : Nat
def stepC (o : StE) : List Value := [.int .i64 o.kd, .int .i64 o.b, .int .i64 o.c, .string o.s, .slice o.ka o.kn o.kc, .slice o.va o.vn o.vc]
structure StOk (w : World) (o : StE) : Prop where
  keys : ∀ j, j < o.kn → ∃ (bl off : Nat) (k : Int), o.ka = some ⟨bl, off, none⟩ ∧ w.cell? ⟨bl, off + j, none⟩ = some (.int .i64 k) ∧ -9223372036854775808 ≤ k ∧ k ≤ 9223372036854775807
  vals : ∀ j, j < o.vn → ∃ (bl off : Nat) (v : Int), o.va = some ⟨bl, off, none⟩ ∧ w.cell? ⟨bl, off + j, none⟩ = some (.int .i32 v)
  klen : o.kn ≤ 1048576
  vlen : o.vn ≤ 1048576
  slen : o.s.size ≤ 1048576
  b0 : -9223372036854775808 ≤ o.b
  b1 : o.b ≤ 9223372036854775807
  c0 : -9223372036854775808 ≤ o.c
  c1 : o.c ≤ 9223372036854775807
theorem StOk.kept {w w' : World} {o : StE} (h : StOk w o) (k : Kept (fun _ => False) w w') : StOk w' o :=
  ⟨fun j hj => by obtain ⟨bl, off, x, e, c, r⟩ := h.keys j hj; exact ⟨bl, off, x, e, k.hold c, r⟩, fun j hj => by obtain ⟨bl, off, x, e, c⟩ := h.vals j hj; exact ⟨bl, off, x, e, k.hold c⟩, h.klen, h.vlen, h.slen, h.b0, h.b1, h.c0, h.c1⟩

def wr2C (x : Int × Int) : List Value := [.int .i64 x.1, .int .i32 x.2]
theorem oneCell_wr (x : Int × Int) : ∀ u ∈ wr2C x, u.oneCell' = true := by
  intro u hu; simp [wr2C] at hu; rcases hu with rfl | rfl <;> rfl
theorem news_wr (w : World) (x : Int × Int) (t : TypeId) : ∀ j u, (wr2C x)[j]? = some u → (w.alloc (.cells #[.int .i64 x.1, .int .i32 x.2] t)).cell? ((⟨w.heap.size, 0, none⟩ : Addr).add j) = some u := by
  intro j u hj
  have e' : (⟨w.heap.size, 0, none⟩ : Addr).add j = ⟨w.heap.size, j, none⟩ := by cases j <;> simp [Addr.add]
  rw [e', World.cell?_alloc_at _ _ _ _ rfl]
  simpa [wr2C] using hj
theorem Try.infoWrite2 : (Try.prog.info? 116).map (fun i => (i.zero, i.size, i.bytes)) = some (some (.agg #[.int .i64 0, .int .i32 0]), 2, 16) := by kernel_rfl

/-- a list of writes that is being made. -/
theorem grow_wr {w wr : World} {v : Value} {l : List (Int × Int)} (h : Grow 116 2 wr2C w wr v l) : ∃ ao cap, v = .slice ao l.length cap ∧ Wr wr ao l.length l := by
  obtain ⟨ao, cap, hv, _⟩ := h.row.form
  refine ⟨ao, cap, hv, rfl, fun j hj => ?_⟩
  obtain ⟨g, cap', hv', ho, _⟩ := h.row.block (by omega)
  rw [hv] at hv'
  injection hv' with e1 e2 e3
  have hc : ∀ f, f < 2 → ∀ u, (wr2C l[j])[f]? = some u → wr.cell? ⟨g, j * 2 + f, none⟩ = some u := fun f hf u hu => h.row.cell ho _ u (by rw [flat_at wr2C 2 (fun _ => rfl) l j hj f hf]; exact hu)
  exact ⟨g, 0, e1, by rw [Nat.zero_add]; exact hc 0 (by omega) _ rfl, by rw [Nat.zero_add]; exact hc 1 (by omega) _ rfl⟩

def KWritesPost (w : World) (n : Nat) (e : Ending) (w' : World) : Prop := ∃ (ao : Option Addr) (cap : Nat) (ws : List (Int × Int)), e = .returned (.slice ao n cap) ∧ Wr w' ao n ws ∧ Kept (fun _ => False) w w' ∧ (∀ a, ao = some a → w.heap.size ≤ a.block)

set_option maxRecDepth 100000 in
set_option maxHeartbeats 4000000 in
theorem kwrites (w : World) (o : StE) (h : StOk w o) :
    Calls Try.prog 45 #[.agg #[.int .i64 o.kd, .int .i64 o.b, .int .i64 o.c, .string o.s, .slice o.ka o.kn o.kc, .slice o.va o.vn o.vc]] w fun e w' => KWritesPost w o.kn e w' := by
  have HOK : Hid (StOk w o) := h
  have hkn := h.klen
  have hvn := h.vlen
  obtain ⟨i0, hi, hz0, hz1, hz2⟩ := info_parts Try.infoWrite2
  have HI : Hid (Try.prog.info? 116 = some i0 ∧ i0.zero = some (.agg #[.int .i64 0, .int .i32 0]) ∧ i0.size = 2 ∧ i0.bytes = 16) := ⟨hi, hz0, hz1, hz2⟩
  clear hi hz0 hz1 hz2 h
  go_enter Try.func45, Try.ntmps45
  go_wp2
  have HB0 : Hid (Kept (fun _ => False) w (w.alloc (.cells #[.int .i64 o.kd, .int .i64 o.b, .int .i64 o.c, .string o.s, .slice o.ka o.kn o.kc, .slice o.va o.vn o.vc] 33)) ∧ Blk (w.alloc (.cells #[.int .i64 o.kd, .int .i64 o.b, .int .i64 o.c, .string o.s, .slice o.ka o.kn o.kc, .slice o.va o.vn o.vc] 33)) w.heap.size 33 #[.int .i64 o.kd, .int .i64 o.b, .int .i64 o.c, .string o.s, .slice o.ka o.kn o.kc, .slice o.va o.vn o.vc]) := ⟨Kept.alloc _ _ _, Blk.new _ _ _⟩
  generalize w.alloc (.cells #[.int .i64 o.kd, .int .i64 o.b, .int .i64 o.c, .string o.s, .slice o.ka o.kn o.kc, .slice o.va o.vn o.vc] 33) = W at HB0 ⊢
  go_loopw [3, 4] (fun v iv wr => ∃ (j : Nat) (ws : List (Int × Int)), j ≤ o.kn ∧ iv = .int .i64 j ∧ ws.length = j ∧ Hid (Grow 116 2 wr2C W wr v ws)) (fun _ iv _ => o.kn - (intOf iv).toNat)
  case atStart => exact ⟨0, [], Nat.zero_le _, rfl, rfl, Grow.start _ _ _ _⟩
  case round =>
    obtain ⟨j, ws, hj, rfl, hwl, HG⟩ := hrel
    have hbx := HB0.out.2.kept HG.out.kept id
    have b4 : wr.cell? ⟨w.heap.size, 4, none⟩ = some (.slice o.ka o.kn o.kc) := hbx.cell 4
    have b5 : wr.cell? ⟨w.heap.size, 5, none⟩ = some (.slice o.va o.vn o.vc) := hbx.cell 5
    have hsz : w.heap.size < wr.heap.size := hbx.lt
    have hkw : Kept (fun _ => False) w wr := HB0.out.1.trans HG.out.kept (fun _ => id) (fun _ _ => id)
    obtain ⟨av, cv, hvv, _⟩ := HG.out.row.form
    obtain ⟨n, hn⟩ : ∃ n, n = ws.length := ⟨_, rfl⟩
    rw [← hn] at hvv
    subst hvv
    obtain rfl : n = j := by omega
    clear hbx
    by_cases hlt : n < o.kn
    · obtain ⟨bl, off, k, hka, hkc, hk0, hk1⟩ := HOK.out.keys n hlt
      have d0 := hkw.hold hkc
      have hj0 : (0 : Int) ≤ (n : Int) := by omega
      have hj1 : (n : Int) < (o.kn : Int) := by omega
      have HROW : Hid (∀ W', Kept (fun _ => False) wr W' → Row W' 116 2 (.slice av n cv) n (ws.flatMap wr2C)) := fun W' hW => by have := HG.out.row.kept hW (fun _ _ => id); rw [← hn] at this; exact this
      have HNX : Hid (∀ (x : Int × Int) (W' w' : World) (v' : Value), Kept (fun _ => False) wr W' → Appended W' w' 116 2 (.slice av n cv) v' n 1 (ws.flatMap wr2C) (wr2C x) → Grow 116 2 wr2C W w' v' (ws ++ [x])) := by
        intro x W' w' v' hW hA
        rw [hn] at hA HG
        exact (HG.out.more hW).next hA
      have n1 : n + 1 ≤ maxLen := by unfold maxLen; omega
      have n2 : (n + 1) * 16 ≤ 140737488355328 := by omega
      have HKA : Hid (o.ka = some ⟨bl, off, none⟩) := hka
      rw [hka] at b4
      have P7 : Hid (∀ W', Calls Try.prog 18 #[.int .i64 k, .int .i64 7] W' fun e w' => e = .returned (.int .i64 (pickK k 7 : Int)) ∧ W' = w') := fun W' => kpickI W' k 7 7 rfl hk0 hk1 (by omega) (by omega)
      have P8 : Hid (∀ W', Calls Try.prog 18 #[.int .i64 k, .int .i64 8] W' fun e w' => e = .returned (.int .i64 (pickK k 8 : Int)) ∧ W' = w') := fun W' => kpickI W' k 8 8 rfl hk0 hk1 (by omega) (by omega)
      generalize pickK k 7 = p7 at *
      generalize pickK k 8 = p8 at *
      have HWL : Hid (ws.length = n) := hwl
      clear hka hkc hkw hn hwl
      by_cases h7 : 0 < p7
      · by_cases hv : n < o.vn
        · obtain ⟨bv, ov, v, hva, hvc⟩ := HOK.out.vals n hv
          have e0 := (HB0.out.1.trans HG.out.kept (H := fun _ => False) (fun _ => id) (fun _ _ => id)).hold hvc
          have hbv : bv < wr.heap.size := World.block_lt_of_cell? wr _ e0
          have hbv' : bv ≠ wr.heap.size := Nat.ne_of_lt hbv
          have hjv : (n : Int) < (o.vn : Int) := by omega
          rw [hva] at b5
          clear hva hvc
          go_wp2_with first
            | (go_at_call 18; refine (P7.out _).mono ?_; rintro e w1 ⟨rfl, rfl⟩; clear P7)
            | (go_at_call 18; refine (P8.out _).mono ?_; rintro e w1 ⟨rfl, rfl⟩)
            | (at_builtin; go_must (refine wpList_append_mine _ rfl (.tmp 37) (.tmp 39) 113 rfl 116 i0 (.agg #[.int .i64 0, .int .i32 0]) 2 16 Try.underlying113 HI.out.1 HI.out.2.1 HI.out.2.2.1 HI.out.2.2.2 rfl (by decide) (.slice av n cv) n _ rfl (HROW.out _ ((Kept.alloc _ _ _).allocNew _)) ⟨wr.heap.size + 1, 0, none⟩ 1 1 (wr2C ((p8 : Int), v)) rfl rfl (fun i u hj => by simpa using news_wr (wr.alloc _) ((p8 : Int), v) _ i u hj) (oneCell_wr _) n1 n2 ?_); intro v' w1 hA; have HA := HNX.out _ _ _ _ ((Kept.alloc _ _ _).allocNew _) hA; have HA' : Hid (Grow 116 2 wr2C W w1 v' (ws ++ [((p8 : Int), v)])) := HA; clear hA HA)
          go_roundw
          case rel => exact ⟨n + 1, _, by omega, by go_num, by rw [List.length_append, HWL.out]; rfl, HA'.out⟩
          case measure => simp [intOf]; omega
        · have hjv : ¬ n < o.vn := hv
          go_wp2_with first
            | (go_at_call 18; refine (P7.out _).mono ?_; rintro e w1 ⟨rfl, rfl⟩; clear P7)
            | (go_at_call 18; refine (P8.out _).mono ?_; rintro e w1 ⟨rfl, rfl⟩)
            | (at_builtin; go_must (refine wpList_append_mine _ rfl (.tmp 37) (.tmp 39) 113 rfl 116 i0 (.agg #[.int .i64 0, .int .i32 0]) 2 16 Try.underlying113 HI.out.1 HI.out.2.1 HI.out.2.2.1 HI.out.2.2.2 rfl (by decide) (.slice av n cv) n _ rfl (HROW.out _ ((Kept.alloc _ _ _).allocNew _)) ⟨wr.heap.size + 1, 0, none⟩ 1 1 (wr2C ((p8 : Int), 0)) rfl rfl (fun i u hj => by simpa using news_wr (wr.alloc _) ((p8 : Int), 0) _ i u hj) (oneCell_wr _) n1 n2 ?_); intro v' w1 hA; have HA := HNX.out _ _ _ _ ((Kept.alloc _ _ _).allocNew _) hA; have HA' : Hid (Grow 116 2 wr2C W w1 v' (ws ++ [((p8 : Int), 0)])) := HA; clear hA HA)
          go_roundw
          case rel => exact ⟨n + 1, _, by omega, by go_num, by rw [List.length_append, HWL.out]; rfl, HA'.out⟩
          case measure => simp [intOf]; omega
      · obtain rfl : p7 = 0 := by omega
        by_cases hv : n < o.vn
        · obtain ⟨bv, ov, v, hva, hvc⟩ := HOK.out.vals n hv
          have e0 := (HB0.out.1.trans HG.out.kept (H := fun _ => False) (fun _ => id) (fun _ _ => id)).hold hvc
          have hbv : bv < wr.heap.size := World.block_lt_of_cell? wr _ e0
          have hbv' : bv ≠ wr.heap.size := Nat.ne_of_lt hbv
          have hjv : (n : Int) < (o.vn : Int) := by omega
          rw [hva] at b5
          clear hva hvc
          go_wp2_with first
            | (go_at_call 18; refine (P7.out _).mono ?_; rintro e w1 ⟨rfl, rfl⟩; clear P7)
            | (at_builtin; go_must (refine wpList_append_mine _ rfl (.tmp 37) (.tmp 39) 113 rfl 116 i0 (.agg #[.int .i64 0, .int .i32 0]) 2 16 Try.underlying113 HI.out.1 HI.out.2.1 HI.out.2.2.1 HI.out.2.2.2 rfl (by decide) (.slice av n cv) n _ rfl (HROW.out _ ((Kept.alloc _ _ _).allocNew _)) ⟨wr.heap.size + 1, 0, none⟩ 1 1 (wr2C (k, v)) rfl rfl (fun i u hj => by simpa using news_wr (wr.alloc _) (k, v) _ i u hj) (oneCell_wr _) n1 n2 ?_); intro v' w1 hA; have HA := HNX.out _ _ _ _ ((Kept.alloc _ _ _).allocNew _) hA; have HA' : Hid (Grow 116 2 wr2C W w1 v' (ws ++ [(k, v)])) := HA; clear hA HA)
          go_roundw
          case rel => exact ⟨n + 1, _, by omega, by go_num, by rw [List.length_append, HWL.out]; rfl, HA'.out⟩
          case measure => simp [intOf]; omega
        · have hjv : ¬ n < o.vn := hv
          go_wp2_with first
            | (go_at_call 18; refine (P7.out _).mono ?_; rintro e w1 ⟨rfl, rfl⟩; clear P7)
            | (at_builtin; go_must (refine wpList_append_mine _ rfl (.tmp 37) (.tmp 39) 113 rfl 116 i0 (.agg #[.int .i64 0, .int .i32 0]) 2 16 Try.underlying113 HI.out.1 HI.out.2.1 HI.out.2.2.1 HI.out.2.2.2 rfl (by decide) (.slice av n cv) n _ rfl (HROW.out _ ((Kept.alloc _ _ _).allocNew _)) ⟨wr.heap.size + 1, 0, none⟩ 1 1 (wr2C (k, 0)) rfl rfl (fun i u hj => by simpa using news_wr (wr.alloc _) (k, 0) _ i u hj) (oneCell_wr _) n1 n2 ?_); intro v' w1 hA; have HA := HNX.out _ _ _ _ ((Kept.alloc _ _ _).allocNew _) hA; have HA' : Hid (Grow 116 2 wr2C W w1 v' (ws ++ [(k, 0)])) := HA; clear hA HA)
          go_roundw
          case rel => exact ⟨n + 1, _, by omega, by go_num, by rw [List.length_append, HWL.out]; rfl, HA'.out⟩
          case measure => simp [intOf]; omega
    · have hjn : n = o.kn := by omega
      subst hjn
      have HFIN : Hid (KWritesPost w o.kn (.returned (.slice av o.kn cv)) wr) := by
        obtain ⟨ao, cap, hv, hwr⟩ := grow_wr HG.out
        injection hv with e1 e2 e3
        subst e1
        refine ⟨av, cv, ws, rfl, by rw [hwl] at hwr; exact hwr, hkw, fun a ha => ?_⟩
        subst ha
        have := HG.out.new a.block rfl
        exact Nat.le_trans HB0.out.1.size this
      clear hn hkw hwl
      go_wp2
      go_ret
      exact HFIN.out

end Go.Proofs.Ytpfcacedpkaihab
