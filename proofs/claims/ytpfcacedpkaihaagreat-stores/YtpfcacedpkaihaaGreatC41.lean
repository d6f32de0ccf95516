import Derived.Test.YtpfcacedpkaihaaGreatC40
import Derived.Test.YtpfcacedpkaihaaGreatC36
namespace Go.Proofs.YtpfcacedpkaihaaGreat
open Go.RowKit
set_option maxRecDepth 100000
set_option maxHeartbeats 16000000
theorem Kept.setF {F : Nat → Prop} {A : Nat} {W X : World} (h : Kept F W X) (hA : F A) (f : Nat) (v : Value) : Kept F W (X.setCell ⟨A, f, none⟩ v) :=
 h.trans (Kept.setCell X ⟨A, f, none⟩ v) (fun _ => id) (fun _ _ he => by rw [he]; exact hA)
theorem rwaitN_len (wts : List Nat) (a n : Nat) : (rwaitN wts a n).length ≤ n * wts.length := by
 induction n with
 | zero => simp [rwaitN]
 | succ n ih =>
  rw [rwaitN_next, List.length_append, List.length_map, Nat.succ_mul]
  have := List.length_filter_le (fun x => decide (x = a + n)) wts
  omega
structure LS (w wr : World) (up : Bool) (hz : Nat) (nc : Array Value) (v : Value) (l : List Int) : Prop where
 kept : Kept (fun _ => False) w wr
 b0 : Blk wr w.heap.size 102 #[.bool false, .int .u64 0, .slice none 0 0, .slice none 0 0]
 b1 : Blk wr (w.heap.size + 1) 146 nc
 b2 : Blk wr (w.heap.size + 2) 102 #[.bool up, .int .u64 (hz : Int), v, .slice none 0 0]
 row : Row wr 5 1 v l.length (l.flatMap u8C)
 new : ∀ k, v.ownBlock = some k → w.heap.size ≤ k
theorem LS.start (w : World) (up : Bool) (hz : Nat) (nc : Array Value) : LS w (((w.alloc (.cells #[.bool false, .int .u64 0, .slice none 0 0, .slice none 0 0] 102)).alloc (.cells nc 146)).alloc (.cells #[.bool up, .int .u64 (hz : Int), .slice none 0 0, .slice none 0 0] 102)) up hz nc (.slice none 0 0) [] := by
 have k1 := fun (W : World) (o : Obj) => Kept.alloc W o (fun _ => False)
 refine ⟨((k1 _ _).allocNew _).allocNew _, ((Blk.new w _ _).kept (k1 _ _) id).kept (k1 _ _) id, ?_, ?_, Row.nil _ _ _, fun k hk => nil_own hk⟩
 · have := (Blk.new (w.alloc (.cells #[.bool false, .int .u64 0, .slice none 0 0, .slice none 0 0] 102)) 146 nc)
   simp only [World.size_alloc] at this
   exact this.kept (k1 _ _) id
 · have := (Blk.new ((w.alloc (.cells #[.bool false, .int .u64 0, .slice none 0 0, .slice none 0 0] 102)).alloc (.cells nc 146)) 102 #[.bool up, .int .u64 (hz : Int), .slice none 0 0, .slice none 0 0])
   simp only [World.size_alloc] at this
   exact this
theorem LS.more {w wr W : World} {up : Bool} {hz : Nat} {nc : Array Value} {v : Value} {l : List Int} (h : LS w wr up hz nc v l) (k : Kept (fun _ => False) wr W) : LS w W up hz nc v l :=
 ⟨h.kept.trans k (fun _ => id) (fun _ _ => id), h.b0.kept k id, h.b1.kept k id, h.b2.kept k id, h.row.kept k (fun _ _ => id), h.new⟩
theorem LS.next {w wr w2 : World} {up : Bool} {hz : Nat} {nc : Array Value} {v v' : Value} {l : List Int} {x : Int} {o : Obj} (h0 : LS w wr up hz nc v l) (hA : Appended (wr.alloc o) w2 5 1 v v' l.length 1 (l.flatMap u8C) (u8C x)) :
 w2.cell? ⟨w.heap.size + 2, 2, none⟩ = some v ∧ w2.frozen? ⟨w.heap.size + 2, 2, none⟩ = false ∧ LS w (w2.setCell ⟨w.heap.size + 2, 2, none⟩ v') up hz nc v' (l ++ [x]) := by
 have h := h0.more (Kept.alloc wr o (fun _ => False))
 have c0 := h.b0.kept hA.kept (h.row.ne_block h.b0 (by decide))
 have c1 := h.b1.kept hA.kept (h.row.ne_block h.b1 (by decide))
 have c2 := h.b2.kept hA.kept (h.row.ne_block h.b2 (by decide))
 have kS := Kept.setCell w2 ⟨w.heap.size + 2, 2, none⟩ v'
 have hsz := h.kept.size
 have hr : Row w2 5 1 v' (l ++ [x]).length ((l ++ [x]).flatMap u8C) := row_snoc hA.row
 have hn : ∀ k, v'.ownBlock = some k → w.heap.size ≤ k := fun k hk => by
  rcases hA.own with e | e
  · exact h.new k (by rw [← e]; exact hk)
  · exact Nat.le_trans hsz (e k hk)
 refine ⟨c2.cell 2, c2.free 2, ⟨(h.kept.trans hA.kept (H := fun _ => False) (fun _ => id) (fun k hk he => by have := h.new k he; omega)).trans kS (fun _ => id) (fun k hk he => by simp at he; omega), c0.kept kS (by simp), c1.kept kS (by simp), c2.set 2 v', hr.kept kS (fun k hk he => ?_), hn⟩⟩
 simp at he
 subst he
 exact Row.ne_block hr c2 (by decide) hk
theorem rlook_bad (w : World) (b : Nat) (R : RefS) (k : Int) (h : Ref w b R) (h0 : k < 0 ∨ (R.nodes.length : Int) ≤ k) :
 Calls Tryz.prog 50 #[.pointer (some ⟨b, 0, none⟩), .int .i64 k] w fun e w' => e = .returned (.tuple #[.agg #[.bool false, .int .u64 0, .slice none 0 0, .slice none 0 0], .int .i64 9]) ∧ Kept (fun _ => False) w w' := by
 have H0 : Hid (∀ W, Kept (fun _ => False) w W → Calls Tryz.prog 108 #[.pointer (some ⟨b, 0, none⟩), .int .i64 k] W fun e w' => e = .returned (.bool true) ∧ W = w') := fun W hW => by
  have := rnoNode W b R k (h.kept hW (fun _ _ => id))
  rw [decide_eq_true h0] at this
  exact this
 clear h h0
 go_enter Tryz.func50, Tryz.ntmps50
 go_wp2_with (go_at_call 108; refine (H0.out _ (Kept.alloc _ _ _)).mono ?_; rintro e w1 ⟨rfl, rfl⟩)
 refine bodyPost_ret (v := .tuple #[.agg #[.bool false, .int .u64 0, .slice none 0 0, .slice none 0 0], .int .i64 9]) (by simp [results, Tryz.results50, go_sem]) rfl ⟨rfl, ?_⟩
 have hF : ∀ W', Kept (fun k => k = w.heap.size) (w.alloc (.cells #[.bool false, .int .u64 0, .slice none 0 0, .slice none 0 0] 102)) W' → Kept (fun _ => False) w W' := fun W' k => (Kept.alloc w _ (fun _ => False)).trans k (fun _ => id) (fun i hi he => by omega)
 refine hF _ ?_
 repeat first
  | with_reducible refine Kept.setO ?_ _ _
  | with_reducible exact Kept.refl _ _
theorem rlook (w : World) (b : Nat) (R : RefS) (k : Int) (h : Ref w b R) (hf : R.Fit) (hl : ∀ nd ∈ R.nodes, nd.wts.length ≤ 1000 ∧ nd.ents.length ≤ 1000 ∧ nd.horizon < R.past.length) :
 Calls Tryz.prog 50 #[.pointer (some ⟨b, 0, none⟩), .int .i64 k] w fun e w' => RLookPost w R k e w' := by
 by_cases h0 : k < 0 ∨ (R.nodes.length : Int) ≤ k
 · exact (rlook_bad w b R k h h0).mono fun e w' hp => .inl ⟨h0, hp⟩
 · obtain ⟨j, rfl⟩ : ∃ j : Nat, k = j := ⟨k.toNat, by omega⟩
   have hjl : j < R.nodes.length := by omega
   obtain ⟨nd, hnd⟩ : ∃ nd, R.nodes[j]? = some nd := ⟨_, List.getElem?_eq_getElem hjl⟩
   have hnd' := (List.getElem?_eq_some_iff.mp hnd).2
   have hmem := List.mem_of_getElem? hnd
   obtain ⟨g, cap, hv, ho, hgl⟩ := h.nodes.block (by omega)
   have c3 := h.c3
   rw [hv] at c3
   obtain ⟨hl1, hl2, hl3⟩ := hl nd hmem
   obtain ⟨aw, cw, hvw, _⟩ := (h.wts nd hmem).form
   obtain ⟨ae, ce, hve, hae0⟩ := (h.ents nd hmem).form
   have nc : ∀ f u, (nodeC nd)[f]? = some u → f < 7 → w.cell? ⟨g, j * 7 + f, none⟩ = some u := fun f u hu hf7 => h.nodes.cell ho _ _ (by rw [node_at R.nodes j hjl f hf7, hnd']; exact hu)
   have n0 : w.cell? ⟨g, j * 7, none⟩ = some (.bool nd.up) := nc 0 _ rfl (by omega)
   have n1 : w.cell? ⟨g, j * 7 + 1, none⟩ = some (.int .u64 (nd.since : Int)) := nc 1 _ rfl (by omega)
   have n2 : w.cell? ⟨g, j * 7 + 2, none⟩ = some (.int .u64 (nd.horizon : Int)) := nc 2 _ rfl (by omega)
   have n3 : w.cell? ⟨g, j * 7 + 3, none⟩ = some nd.fl := nc 3 _ rfl (by omega)
   have n4 : w.cell? ⟨g, j * 7 + 4, none⟩ = some nd.wt := nc 4 _ rfl (by omega)
   have n5 : w.cell? ⟨g, j * 7 + 5, none⟩ = some nd.en := nc 5 _ rfl (by omega)
   have n6 : w.cell? ⟨g, j * 7 + 6, none⟩ = some nd.nm := nc 6 _ rfl (by omega)
   rw [hvw] at n4
   rw [hve] at n5
   obtain ⟨af, cf, hvf, _⟩ := (h.fls nd hmem).form
   obtain ⟨am, cm, hvm, _⟩ := (h.nms nd hmem).form
   rw [hvf] at n3
   rw [hvm] at n6
   have H0 : Hid (∀ W, Kept (fun _ => False) w W → Calls Tryz.prog 108 #[.pointer (some ⟨b, 0, none⟩), .int .i64 (j : Int)] W fun e w' => e = .returned (.bool false) ∧ W = w') := fun W hW => by
    have := rnoNode W b R (j : Int) (h.kept hW (fun _ _ => id))
    rw [decide_eq_false h0] at this
    exact this
   obtain ⟨nw, hnw⟩ : ∃ nw, nw = R.past.length - 1 := ⟨_, rfl⟩
   have HNW : Hid (∀ W, Kept (fun _ => False) w W → Calls Tryz.prog 77 #[.pointer (some ⟨b, 0, none⟩)] W fun e w' => e = .returned (.int .u64 (nw : Int)) ∧ W = w') := fun W hW => by rw [hnw]; exact rnewest W b R (h.kept hW (fun _ _ => id)) hf
   obtain ⟨wts, hwts⟩ : ∃ x, x = nd.wts := ⟨_, rfl⟩
   obtain ⟨ents, hents⟩ : ∃ x, x = nd.ents := ⟨_, rfl⟩
   obtain ⟨hz, hhz⟩ : ∃ x, x = nd.horizon := ⟨_, rfl⟩
   obtain ⟨up, hup⟩ : ∃ x, x = nd.up := ⟨_, rfl⟩
   have HWT : Hid (∀ i (hi : i < wts.length), ∃ gw, aw = some ⟨gw, 0, none⟩ ∧ ∀ W, Kept (fun _ => False) w W → W.cell? ⟨gw, i, none⟩ = some (.int .u64 (wts[i] : Int))) := by
    intro i hi
    have hr := h.wts nd hmem
    rw [← hwts, hvw, ← hwts] at hr
    obtain ⟨gw, c', e1, e2, _⟩ := hr.block (by omega)
    injection e1 with e1 _ _
    exact ⟨gw, e1, fun W hW => (hr.kept hW (fun _ _ => id)).cell e2 i _ (u64s_at hi)⟩
   have HEN : Hid (Row w 55 6 (.slice ae ents.length ce) ents.length (ents.flatMap entC)) := by
    have := h.ents nd hmem
    rw [hve, ← hents] at this
    exact this
   have HRES : Hid (∀ (w' : World) (wa ea : Option Addr) (wc ec : Nat), Grow 5 1 u8C w w' (.slice wa (rwaitN wts (hz + 1) (nw - hz)).length wc) (rwaitN wts (hz + 1) (nw - hz)) → Grow 55 6 entC w w' (.slice ea ents.length ec) ents → RLookPost w R (j : Int) (.returned (.tuple #[.agg #[.bool up, .int .u64 (hz : Int), .slice wa (rwaitN wts (hz + 1) (nw - hz)).length wc, .slice ea ents.length ec], .int .i64 0])) w') := by
    intro w' wa ea wc ec g1 g2
    rw [hwts, hhz, hnw] at g1
    rw [hents] at g2
    refine .inr ⟨j, nd, wa, ea, wc, ec, rfl, hnd, ?_, g1, g2⟩
    rw [hwts, hhz, hnw, hents, hup]
   obtain ⟨N, hN⟩ : ∃ N, N = nw - hz := ⟨_, rfl⟩
   have HNZ : Hid (nw = hz + N) := by show nw = hz + N; omega
   have hnm : nw ≤ 700 := by have := hf.pmax; omega
   have hhm : hz ≤ 700 := by omega
   rw [← hN] at HRES
   rw [← hup] at n0
   rw [← hhz] at n2
   rw [← hwts] at n4 hl1
   rw [← hents] at n5 hl2
   obtain ⟨i0, hi, hz0, hz1, hz2⟩ := info_parts Tryz.infoU8
   have HI : Hid (Tryz.prog.info? 5 = some i0 ∧ i0.zero = some (.int .u8 0) ∧ i0.size = 1 ∧ i0.bytes = 1) := ⟨hi, hz0, hz1, hz2⟩
   obtain ⟨i1, hj, hy0, hy1, hy2⟩ := info_parts Tryz.infoEntry
   have HI1 : Hid (Tryz.prog.info? 55 = some i1 ∧ i1.zero = some (.agg #[.string ByteArray.empty, .int .i32 0, .int .u64 0, .int .u64 0, .bool false, .int .u64 0]) ∧ i1.size = 6 ∧ i1.bytes = 56) := ⟨hj, hy0, hy1, hy2⟩
   have hj0 : (0 : Int) ≤ (j : Int) := by omega
   have hj1 : (j : Int) < (R.nodes.length : Int) := by omega
   have hgz : g < w.heap.size := hgl
   have hbz : b < w.heap.size := World.block_lt_of_cell? w _ c3
   generalize nd.since = since at n1
   generalize nd.fls.length = fn at n3
   generalize nd.nms.length = nmn at n6
   clear hi hz0 hz1 hz2 hj hy0 hy1 hy2 h hf hl h0 hnd hnd' hmem hv ho hvw hve hvf hvm nc hae0 hnw hN hwts hents hhz hup hl3 hgl
   obtain ⟨C, hC⟩ : ∃ C : Array Value, C = #[.bool up, .int .u64 (since : Int), .int .u64 (hz : Int), .slice af fn cf, .slice aw wts.length cw, .slice ae ents.length ce, .slice am nmn cm] := ⟨_, rfl⟩
   have HST : Hid (LS w (((w.alloc (.cells #[.bool false, .int .u64 0, .slice none 0 0, .slice none 0 0] 102)).alloc (.cells #[.bool up, .int .u64 (since : Int), .int .u64 (hz : Int), .slice af fn cf, .slice aw wts.length cw, .slice ae ents.length ce, .slice am nmn cm] 146)).alloc (.cells #[.bool up, .int .u64 (hz : Int), .slice none 0 0, .slice none 0 0] 102)) up hz C (.slice none 0 0) []) := by rw [hC]; exact LS.start w up hz _
   have HC4 : Hid (C[4]? = some (.slice aw wts.length cw) ∧ C[5]? = some (.slice ae ents.length ce)) := by rw [hC]; exact ⟨rfl, rfl⟩
   clear hC
   go_enter Tryz.func50, Tryz.ntmps50
   go_wp2_with (go_at_call 108; refine (H0.out _ (Kept.alloc _ _ _)).mono ?_; rintro e w1 ⟨rfl, rfl⟩)
   go_loopw [9] (fun tv wr => ∃ T : Nat, tv = .int .u64 (T : Int) ∧ ∃ i : Nat, Hid (T = hz + 1 + i) ∧ i ≤ N ∧ T ≤ 800 ∧ ∃ v, Hid (LS w wr up hz C v (rwaitN wts (hz + 1) i))) (fun tv _ => hz + 1 + N - (intOf tv).toNat)
   case atStart => exact ⟨hz + 1, by go_num, 0, rfl, Nat.zero_le _, by have := HNZ.out; omega, .slice none 0 0, HST⟩
   case round =>
    obtain ⟨T, rfl, i, HT, hi, hT8, v, HL⟩ := hrel
    by_cases hlt : i < N
    · have hle : T ≤ nw := by have := HT.out; have := HNZ.out; omega
      have hLR := rwaitN_len wts (hz + 1) i
      have hLR2 : (rwaitN wts (hz + 1) i).length ≤ 701000 := by
       have : i * wts.length ≤ 701 * 1000 := Nat.mul_le_mul (by have := HNZ.out; omega) hl1
       omega
      clear hLR
      go_wp2_with (go_at_call 77; refine (HNW.out _ HL.out.kept).mono ?_; rintro e w1 ⟨rfl, rfl⟩)
      go_loopw [10] (fun iv wr => ∃ m : Nat, m ≤ wts.length ∧ iv = .int .i64 m ∧ ∃ v, Hid (LS w wr up hz C v (rwaitN wts (hz + 1) i ++ ((wts.take m).filter fun x => decide (x = T)).map fun _ => (T : Int) % 256))) (fun iv _ => wts.length - (intOf iv).toNat)
      case atStart => exact ⟨0, Nat.zero_le _, rfl, v, by show LS _ _ _ _ _ _ _; have := HL.out; simpa using this⟩
      case round =>
       obtain ⟨m, hm, rfl, v2, HM⟩ := hrel
       have r4 : wr.cell? ⟨w.heap.size + 1, 4, none⟩ = some (.slice aw wts.length cw) := by rw [HM.out.b1.cell]; exact HC4.out.1
       by_cases hml : m < wts.length
       · obtain ⟨gw, haw, hcw⟩ := HWT.out m hml
         have p0 := hcw wr HM.out.kept
         have hm0 : (0 : Int) ≤ (m : Int) := by omega
         have hm1 : (m : Int) < (wts.length : Int) := by omega
         have hflt : ((wts.take m).filter fun x => decide (x = T)).length ≤ 1000 := by
          have := List.length_filter_le (fun x => decide (x = T)) (wts.take m)
          rw [List.length_take] at this
          omega
         obtain ⟨L, hL⟩ : ∃ L, L = rwaitN wts (hz + 1) i ++ ((wts.take m).filter fun x => decide (x = T)).map fun _ => (T : Int) % 256 := ⟨_, rfl⟩
         have hLn : L.length ≤ 702000 := by rw [hL, List.length_append, List.length_map]; omega
         obtain ⟨x, hx⟩ : ∃ x, x = wts[m] := ⟨_, rfl⟩
         rw [← hx] at p0
         subst haw
         by_cases hxT : x = T
         · have HX : Hid (rwaitN wts (hz + 1) i ++ ((wts.take (m + 1)).filter fun x => decide (x = T)).map (fun _ => (T : Int) % 256) = L ++ [(T : Int) % 256]) := by
            show _ = _
            rw [hL, List.take_succ_eq_append_getElem hml, List.filter_append, List.map_append, ← hx, List.append_assoc]
            simp [hxT]
           rw [← hL] at HM
           obtain ⟨av, cv, hvv, _⟩ := HM.out.row.form
           obtain ⟨n, hn⟩ : ∃ n, n = L.length := ⟨_, rfl⟩
           rw [← hn] at hvv hLn
           subst hvv
           have r2 : wr.cell? ⟨w.heap.size + 2, 2, none⟩ = some (.slice av n cv) := HM.out.b2.cell 2
           have HROW : Hid (∀ o, Row (wr.alloc o) 5 1 (.slice av n cv) n (L.flatMap u8C)) := fun o => by have := HM.out.row.kept (Kept.alloc wr o (fun _ => False)) (fun _ _ => id); rw [← hn] at this; exact this
           have HNX : Hid (∀ (o : Obj) (w2 : World) (v' : Value), Appended (wr.alloc o) w2 5 1 (.slice av n cv) v' n 1 (L.flatMap u8C) (u8C ((T : Int) % 256)) → w2.cell? ⟨w.heap.size + 2, 2, none⟩ = some (.slice av n cv) ∧ w2.frozen? ⟨w.heap.size + 2, 2, none⟩ = false ∧ Hid (LS w (w2.setCell ⟨w.heap.size + 2, 2, none⟩ v') up hz C v' (L ++ [(T : Int) % 256]))) := by
            intro o w2 v' hA
            rw [hn] at hA ⊢
            obtain ⟨y1, y2, y3⟩ := HM.out.next (o := o) (x := (T : Int) % 256) (by rw [← hn] at hA ⊢; exact hA)
            exact ⟨by rw [← hn]; exact y1, y2, y3⟩
           have b1 : n + 1 ≤ maxLen := by unfold maxLen; omega
           have b2 : (n + 1) * 1 ≤ 140737488355328 := by omega
           have hxI : ((x : Int) == (T : Int)) = true := by rw [hxT]; simp
           clear hn hL hx hxT
           go_wp2_with (at_builtin; go_must (refine wpList_append_mine _ rfl (.tmp 52) (.tmp 56) 100 rfl 5 i0 (.int .u8 0) 1 1 Tryz.underlying100 HI.out.1 HI.out.2.1 HI.out.2.2.1 HI.out.2.2.2 rfl (by decide) (.slice av n cv) n _ rfl (HROW.out _) ⟨wr.heap.size, 0, none⟩ 1 1 (u8C ((T : Int) % 256)) rfl rfl (fun j u hj => news_u8 wr _ _ j u hj) (oneCell_u8 _) b1 b2 ?_); intro v' w2 hA; obtain ⟨q1, q2, HA⟩ := HNX.out _ _ _ hA; obtain ⟨av', cv', hv', _⟩ := hA.row.form; clear hA; subst hv')
           go_roundw
           case rel => exact ⟨m + 1, by omega, by go_num, _, by rw [HX.out]; exact HA.out⟩
           case measure => simp [intOf]; omega
         · have HX : Hid (rwaitN wts (hz + 1) i ++ ((wts.take (m + 1)).filter fun x => decide (x = T)).map (fun _ => (T : Int) % 256) = L) := by
            show _ = _
            rw [hL, List.take_succ_eq_append_getElem hml, List.filter_append, List.map_append, ← hx]
            simp [hxT]
           rw [← hL] at HM
           have hxI : ((x : Int) == (T : Int)) = false := beq_eq_false_iff_ne.mpr (by omega)
           clear hL hx hxT
           go_wp2
           go_roundw
           case rel => exact ⟨m + 1, by omega, by go_num, v2, by rw [HX.out]; exact HM.out⟩
           case measure => simp [intOf]; omega
       · have hme : m = wts.length := by omega
         subst hme
         have HX : Hid (rwaitN wts (hz + 1) i ++ ((wts.take wts.length).filter fun x => decide (x = T)).map (fun _ => (T : Int) % 256) = rwaitN wts (hz + 1) (i + 1)) := by
          show _ = _
          rw [List.take_length, rwaitN_next, HT.out]
         rw [HX.out] at HM
         have hTI : T + 1 = hz + 1 + (i + 1) := by have := HT.out; omega
         have HTI : Hid (T + 1 = hz + 1 + (i + 1)) := hTI
         clear hTI
         go_wp2
         go_roundw
         case rel => exact ⟨T + 1, by go_num, i + 1, HTI, by omega, by have := HTI.out; have := HNZ.out; omega, v2, HM⟩
         case measure => have := HT.out; simp [intOf]; omega
    · have hie : i = N := by omega
      subst hie
      have hgt : ¬ T ≤ nw := by have := HT.out; have := HNZ.out; omega
      obtain ⟨av, cv, hvv, _⟩ := HL.out.row.form
      obtain ⟨L, hL⟩ : ∃ L, L = rwaitN wts (hz + 1) i := ⟨_, rfl⟩
      rw [← hL] at HL HRES hvv
      clear hL
      subst hvv
      have r5 : wr.cell? ⟨w.heap.size + 1, 5, none⟩ = some (.slice ae ents.length ce) := by rw [HL.out.b1.cell]; exact HC4.out.2
      have r0 : wr.cell? ⟨w.heap.size + 2, 0, none⟩ = some (.bool up) := HL.out.b2.cell 0
      have r1 : wr.cell? ⟨w.heap.size + 2, 1, none⟩ = some (.int .u64 (hz : Int)) := HL.out.b2.cell 1
      have r2 : wr.cell? ⟨w.heap.size + 2, 2, none⟩ = some (.slice av L.length cv) := HL.out.b2.cell 2
      have r3 : wr.cell? ⟨w.heap.size + 2, 3, none⟩ = some (.slice none 0 0) := HL.out.b2.cell 3
      have rf : ∀ f, wr.frozen? ⟨w.heap.size + 2, f, none⟩ = false := fun f => HL.out.b2.free f
      have s0 : wr.cell? ⟨w.heap.size, 0, none⟩ = some (.bool false) := HL.out.b0.cell 0
      have s1 : wr.cell? ⟨w.heap.size, 1, none⟩ = some (.int .u64 0) := HL.out.b0.cell 1
      have s2 : wr.cell? ⟨w.heap.size, 2, none⟩ = some (.slice none 0 0) := HL.out.b0.cell 2
      have s3 : wr.cell? ⟨w.heap.size, 3, none⟩ = some (.slice none 0 0) := HL.out.b0.cell 3
      have sf : ∀ f, wr.frozen? ⟨w.heap.size, f, none⟩ = false := fun f => HL.out.b0.free f
      have HFIN : Hid (∀ (w2 W' : World) (ea : Option Addr) (ec : Nat), Kept (fun _ => False) wr w2 → Row w2 55 6 (.slice ea ents.length ec) ents.length (ents.flatMap entC) → (∀ q, (Value.slice ea ents.length ec).ownBlock = some q → wr.heap.size ≤ q) → Kept (fun q => q = w.heap.size ∨ q = w.heap.size + 2) w2 W' → RLookPost w R (j : Int) (.returned (.tuple #[.agg #[.bool up, .int .u64 (hz : Int), .slice av L.length cv, .slice ea ents.length ec], .int .i64 0])) W') := by
       intro w2 W' ea ec k2 hr hn kS
       have hs := HL.out.kept.size
       have hb2 := HL.out.b2.lt
       have kk : Kept (fun _ => False) w W' := (HL.out.kept.trans k2 (H := fun _ => False) (fun _ => id) (fun _ _ => id)).trans kS (fun _ => id) (fun q hq he => by omega)
       refine HRES.out W' av ea cv ec ⟨(HL.out.row.kept k2 (fun _ _ => id)).kept kS (fun q hq he => ?_), kk, HL.out.new⟩ ⟨hr.kept kS (fun q hq he => by have := hn q hq; omega), kk, fun q hq => by have := hn q hq; omega⟩
       rcases he with rfl | rfl
       · exact HL.out.row.ne_block HL.out.b0 (by decide) hq
       · exact HL.out.row.ne_block HL.out.b2 (by decide) hq
      rcases HEN.out.shape with ⟨he1, he2, _⟩ | ⟨ge, cap', cur, he1, heb, _, _, _, _⟩
      · injection he1 with e1 e2 e3
        subst e1 e3
        have HE0 : Hid (ents = []) := List.eq_nil_of_length_eq_zero he2
        rw [he2] at r5 HFIN
        clear he2 e2
        go_wp2_with first
         | (go_at_call 77; refine (HNW.out _ HL.out.kept).mono ?_; rintro e w1 ⟨rfl, rfl⟩)
         | (at_builtin; refine wpList_append_own_none rfl (.tmp 60) (.tmp 62) 51 rfl 0 55 i1 6 Tryz.underlying51 HI1.out.1 (.slice none 0 0) 0 [] rfl (Row.nil _ _ _) rfl ?_)
        refine bodyPost_ret (v := .tuple #[.agg #[.bool up, .int .u64 (hz : Int), .slice av L.length cv, .slice none 0 0], .int .i64 0]) (by simp [results, Tryz.results50, go_sem, *]) rfl (HFIN.out wr _ none 0 (Kept.refl _ _) (by rw [HE0.out]; exact Row.nil _ _ _) (fun q hq => nil_own hq) ?_)
        repeat first
         | with_reducible refine Kept.setF ?_ (.inl rfl) _ _
         | with_reducible refine Kept.setF ?_ (.inr rfl) _ _
         | with_reducible exact Kept.refl _ _
      · injection he1 with e1 e2 e3
        subst e1 e3
        clear e2
        have HNEWS : Hid (∀ q u, (ents.flatMap entC)[q]? = some u → wr.cell? ((⟨ge, 0, none⟩ : Addr).add q) = some u) := by
         intro q u hq
         have e : (⟨ge, 0, none⟩ : Addr).add q = ⟨ge, q, none⟩ := by cases q <;> simp [Addr.add]
         rw [e]
         exact HL.out.kept.hold (HEN.out.cell rfl q u hq)
        have HLC : Hid ((ents.flatMap entC).length = ents.length * 6) := flat_length entC 6 (fun _ => rfl) ents
        have b1 : 0 + ents.length ≤ maxLen := by unfold maxLen; omega
        have b2 : (0 + ents.length) * 56 ≤ 140737488355328 := by omega
        have HDO : Hid (∀ (w2 : World) (v' : Value), Appended wr w2 55 6 (.slice none 0 0) v' 0 ents.length [] (ents.flatMap entC) → Kept (fun _ => False) wr w2 ∧ Row w2 55 6 v' ents.length (ents.flatMap entC) ∧ (∀ q, v'.ownBlock = some q → wr.heap.size ≤ q)) := by
         intro w2 v' hA
         refine ⟨hA.kept.mono (fun q hq => nil_own hq), by have := hA.row; rwa [Nat.zero_add, List.nil_append] at this, fun q hq => ?_⟩
         rcases hA.own with e | e
         · rw [e] at hq; exact nil_own hq
         · exact e q hq
        clear heb
        go_wp2_with first
         | (go_at_call 77; refine (HNW.out _ HL.out.kept).mono ?_; rintro e w1 ⟨rfl, rfl⟩)
         | (at_builtin; go_must (refine wpList_append_mine _ rfl (.tmp 60) (.tmp 62) 51 rfl 55 i1 (.agg #[.string ByteArray.empty, .int .i32 0, .int .u64 0, .int .u64 0, .bool false, .int .u64 0]) 6 56 Tryz.underlying51 HI1.out.1 HI1.out.2.1 HI1.out.2.2.1 HI1.out.2.2.2 rfl (by decide) (.slice none 0 0) 0 [] rfl (Row.nil _ _ _) ⟨ge, 0, none⟩ ents.length _ (ents.flatMap entC) rfl HLC.out HNEWS.out (oneCell_ent ents) b1 b2 ?_); intro v' w2 hA; obtain ⟨k2, hr2, hn2⟩ := HDO.out _ _ hA; obtain ⟨ea, ec, hv', _⟩ := hr2.form; clear hA; subst hv'; have HK2 : Hid (Kept (fun _ => False) wr w2 ∧ Row w2 55 6 (.slice ea ents.length ec) ents.length (ents.flatMap entC) ∧ (∀ q, (Value.slice ea ents.length ec).ownBlock = some q → wr.heap.size ≤ q)) := ⟨k2, hr2, hn2⟩; replace r0 := k2.hold r0; replace r1 := k2.hold r1; replace r2 := k2.hold r2; replace r3 := k2.hold r3; replace s0 := k2.hold s0; replace s1 := k2.hold s1; replace s2 := k2.hold s2; replace s3 := k2.hold s3; replace rf : ∀ f, w2.frozen? ⟨w.heap.size + 2, f, none⟩ = false := fun f => (HL.out.b2.kept k2 id).free f; replace sf : ∀ f, w2.frozen? ⟨w.heap.size, f, none⟩ = false := fun f => (HL.out.b0.kept k2 id).free f; clear k2 hr2 hn2)
        refine bodyPost_ret (v := .tuple #[.agg #[.bool up, .int .u64 (hz : Int), .slice av L.length cv, .slice ea ents.length ec], .int .i64 0]) (by simp [results, Tryz.results50, go_sem, *]) rfl (HFIN.out w2 _ ea ec HK2.out.1 HK2.out.2.1 HK2.out.2.2 ?_)
        repeat first
         | with_reducible refine Kept.setF ?_ (.inl rfl) _ _
         | with_reducible refine Kept.setF ?_ (.inr rfl) _ _
         | with_reducible exact Kept.refl _ _
end Go.Proofs.YtpfcacedpkaihaaGreat
