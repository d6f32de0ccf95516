/- The program's answer (package almanac), walked. -/
import Derived.Test.YtpfcacedpkaihaaGreatDjDkQe
import Derived.Test.YtpfcacedpkaihaaGreatDlDmDz
import Derived.Test.YtpfcacedpkaihaaGreatQgQh
namespace Go.Proofs.YtpfcacedpkaihaaGreat
open Go.RowKit

theorem till_pos {l : List PastE} {K : Int} {s : Nat} : ∀ n, n ≤ l.length - 1 → tillN l K n = some s → l.length - 1 - n < s
  | 0, _, h => by simp [tillN] at h
  | n + 1, hn, h => by
    simp only [tillN] at h
    split at h
    · injection h with h; omega
    · have := till_pos n (by omega) h; omega

/-- what the store answers: the put that it becomes. -/
def answerE (D : DevS) (q : ByteArray) (ts : List (Nat × Nat)) (t : Nat) : EntE := rightE (zeroP :: D.past) q (keysL ts) (evalL (stAt D.past t) ts) t

theorem answer_open (D : DevS) (q : ByteArray) (ts : List (Nat × Nat)) (t : Nat) : ((((answerE D q ts t).till : Nat) : Int) == 0) = (answerE D q ts t).op := by
  show (((((tillN (zeroP :: D.past) (keysL ts) ((zeroP :: D.past).length - 1 - t)).getD 0 : Nat) : Int)) == 0) = (tillN (zeroP :: D.past) (keysL ts) ((zeroP :: D.past).length - 1 - t)).isNone
  cases h : tillN (zeroP :: D.past) (keysL ts) ((zeroP :: D.past).length - 1 - t) with
  | none => rfl
  | some s =>
    have := till_pos _ (by omega) h
    have h0 : ¬ ((s : Int) = 0) := by omega
    simpa using h0

def AnswerPost (w : World) (en : EntE) (e : Ending) (w' : World) : Prop :=
  e = .returned (.agg #[.string en.q, .int .i32 en.val, .int .u64 (en.fr : Int), .int .u64 (en.till : Int), .bool en.op, .int .u64 (en.kn : Int)]) ∧ Kept (fun _ => False) w w'

set_option maxRecDepth 100000 in
set_option maxHeartbeats 2000000 in
theorem danswer (w : World) (b : Nat) (D : DevS) (q : ByteArray) (ts : List (Nat × Nat)) (t : Nat) (h : Dev w b D) (hf : D.Fit) (ht : t ≤ D.past.length) (hr : Q.readL q.data.toList = (0, ts)) :
    Calls Tryz.prog 91 #[.pointer (some ⟨b, 0, none⟩), .string q, .int .u8 (keysL ts), .int .u64 (t : Int)] w fun e w' => AnswerPost w (answerE D q ts t) e w' := by
  obtain ⟨en, hen⟩ : ∃ en, en = answerE D q ts t := ⟨_, rfl⟩
  obtain ⟨x, hx⟩ : ∃ x, x = stAt D.past t := ⟨_, rfl⟩
  have hbl := h.blk.lt
  have H0 : Hid (∀ W, Kept (fun _ => False) w W → Calls Tryz.prog 128 #[.pointer (some ⟨b, 0, none⟩), .int .u64 (t : Int)] W fun e w' => e = .returned (.agg #[.int .i32 (x 0), .int .i32 (x 1), .int .i32 (x 2), .int .i32 (x 3), .int .i32 (x 4), .int .i32 (x 5), .int .i32 (x 6), .int .i32 (x 7)]) ∧ Kept (fun _ => False) W w') := fun W hW => by
    have := dat W b D t (h.kept hW (fun _ _ => id)) hf ht
    rw [← hx] at this
    exact this
  have H1 : Hid (∀ W, Calls Tryz.prog 138 #[.string q, .agg #[.int .i32 (x 0), .int .i32 (x 1), .int .i32 (x 2), .int .i32 (x 3), .int .i32 (x 4), .int .i32 (x 5), .int .i32 (x 6), .int .i32 (x 7)]] W fun e w' => e = .returned (.tuple #[.int .i32 en.val, .int .i64 0]) ∧ Kept (fun _ => False) W w') := fun W => (qEval_good q x W ts hr).mono fun e w' hp => ⟨by rw [hp.1, hen, hx]; rfl, Kept.of_below hp.2 _⟩
  have H2 : Hid (∀ W, Kept (fun _ => False) w W → Calls Tryz.prog 139 #[.pointer (some ⟨b, 0, none⟩), .int .u8 (keysL ts), .int .u64 (t : Int)] W fun e w' => e = .returned (.tuple #[.int .u64 (en.fr : Int), .int .u64 (en.till : Int)]) ∧ Kept (fun _ => False) W w') := fun W hW => (dright W b D (keysL ts) t (h.kept hW (fun _ _ => id)) hf ht).mono fun e w' hp => ⟨by rw [hp.1, hen]; rfl, hp.2⟩
  have H3 : Hid (∀ W, Kept (fun _ => False) w W → Calls Tryz.prog 80 #[.pointer (some ⟨b, 0, none⟩)] W fun e w' => e = .returned (.int .u64 (en.kn : Int)) ∧ W = w') := fun W hW => (dnewest W b D (h.kept hW (fun _ _ => id)) hf).mono fun e w' hp => ⟨by rw [hp.1, hen]; rfl, hp.2⟩
  have hop : (((en.till : Nat) : Int) == 0) = en.op := by rw [hen]; exact answer_open D q ts t
  have hq : q = en.q := by rw [hen]; rfl
  have HRES : Hid (∀ w1, Kept (fun _ => False) (w.alloc (.cells #[.string ⟨#[]⟩, .int .i32 0, .int .u64 0, .int .u64 0, .bool false, .int .u64 0] 55)) w1 → Blk w1 w.heap.size 55 #[.string ⟨#[]⟩, .int .i32 0, .int .u64 0, .int .u64 0, .bool false, .int .u64 0]) := fun w1 hk => (Blk.new w _ _).kept hk id
  rw [← hen]
  generalize keysL ts = K at *
  clear h hf hr hen hx
  subst hq
  go_enter Tryz.func91, Tryz.ntmps91
  go_wp2_with first
    | (go_at_call 128; refine (H0.out _ (Kept.alloc _ _ _)).mono ?_; rintro e w1 ⟨rfl, hk1⟩; have hs1 := hk1.size)
    | (go_at_call 138; refine (H1.out _).mono ?_; rintro e w2 ⟨rfl, hk2⟩; have HK2 := (hk1.allocNew _).trans hk2 (H := fun _ => False) (fun _ => id) (fun _ _ => id))
    | (go_at_call 139; refine (H2.out _ ((Kept.alloc _ _ _).trans HK2 (fun _ => id) (fun _ _ => id))).mono ?_; rintro e w3 ⟨rfl, hk3⟩; have HK3 := HK2.trans hk3 (H := fun _ => False) (fun _ => id) (fun _ _ => id))
    | (go_at_call 80; refine (H3.out _ ((Kept.alloc _ _ _).trans HK3 (fun _ => id) (fun _ _ => id))).mono ?_; rintro e w4 ⟨rfl, rfl⟩; have hbb := HRES.out _ HK3; have y0 : w3.cell? ⟨w.heap.size, 0, none⟩ = some (.string ⟨#[]⟩) := hbb.cell 0; have y1 : w3.cell? ⟨w.heap.size, 1, none⟩ = some (.int .i32 0) := hbb.cell 1; have y2 : w3.cell? ⟨w.heap.size, 2, none⟩ = some (.int .u64 0) := hbb.cell 2; have y3 : w3.cell? ⟨w.heap.size, 3, none⟩ = some (.int .u64 0) := hbb.cell 3; have y4 : w3.cell? ⟨w.heap.size, 4, none⟩ = some (.bool false) := hbb.cell 4; have y5 : w3.cell? ⟨w.heap.size, 5, none⟩ = some (.int .u64 0) := hbb.cell 5; have g0 := hbb.free 0; have g1 := hbb.free 1; have g2 := hbb.free 2; have g3 := hbb.free 3; have g4 := hbb.free 4; have g5 := hbb.free 5; clear hbb)
  refine bodyPost_ret (v := .agg #[.string en.q, .int .i32 en.val, .int .u64 (en.fr : Int), .int .u64 (en.till : Int), .bool en.op, .int .u64 (en.kn : Int)]) (by simp [results, Tryz.results91, go_sem, *]) rfl ⟨rfl, ?_⟩
  exact ((Kept.alloc _ _ (fun _ => False)).trans HK3 (fun _ => id) (fun _ _ => id)).trans (kept_six _ _ _ _ _ _ _ _) (fun _ => id) (fun i hi he => by omega)

end Go.Proofs.YtpfcacedpkaihaaGreat
