import Derived.Test.YtpfcacedpkaihaaGreatC34
import Derived.Test.YtpfcacedpkaihaaGreatC6
namespace Go.Proofs.YtpfcacedpkaihaaGreat
open Go.RowKit
set_option maxRecDepth 100000
set_option maxHeartbeats 16000000
theorem region21 {Q : Exit → Act → World → Prop} {F : World → Prop} {W : World} {b g k P n cap len1 c1 : Nat} {a1 : Option Addr} {xs : List Value} {p : EntE} {i0 : TypeInfo} {u1 u2 u3 u4 u5 u8 u9 u10 u11 u12 u13 u14 u15 u16 u17 u18 u19 u20 u21 u22 u23 u24 u25 u26 u27 u28 u29 u30 u31 u32 u33 u34 u35 u36 u37 u38 u39 u40 u41 u42 u43 u44 u45 u46 u47 u48 u49 u50 u51 u52 u53 u54 u55 u56 u57 u58 u59 u60 u61 u62 u63 u64 u65 u66 u67 u68 u69 u70 u71 u72 u73 u74 u75 u76 u77 u78 u79 u80 u81 u82 u83 u84 u85 u86 u87 u88 u89 u90 u91 u92 u93 u94 u95 u96 u97 u98 u99 u100 u101 u102 u103 u104 u105 u106 u107 u108 u109 u110 u111 u112 u113 u114 u115 u116 u117 u118 u119 u120 u121 u122 u123 u124 u125 u126 u127 u128 u129 u130 u131 u132 u133 u134 u135 u136 u137 u138 u139 u140 u141 u142 u143 u144 u145 u146 u147 u148 u149 u150 u151 u152 u153 u154 u155 u156 u157 u158 u159 u160 u161 u162 u163 u164 u165 u166 u167 u168 u169 u170 u171 u172 u173 u174 u175 u176 u177 u178 u179 u180 u181 u182 u183 u184 u185 u186 u187 u188 u189 u190 u191 u192 u193 u194 u195 u196 u197 u198 u199 u200 u201 u202 u203 u204 u205 u206 u207 u208 u209 u210 u211 u212 u213 u214 u215 u216 u217 u218 u219 : Value}
 (hP : ∀ x (a : Act) (d : Nat) v w, Q (.panic x) (a.put (some d) v) w → Q (.panic x) a w) (hk0 : (0 : Int) ≤ (k : Int)) (hk1 : (k : Int) < (n : Int)) (n3 : W.cell? ⟨b, 3, none⟩ = some (.slice (some ⟨g, 0, none⟩) n cap)) (n5 : W.cell? ⟨g, k * 7 + 5, none⟩ = some (.slice a1 len1 c1)) (b0 : W.cell? ⟨P, 0, none⟩ = some (.string p.q)) (b1 : W.cell? ⟨P, 1, none⟩ = some (.int .i32 p.val)) (b2 : W.cell? ⟨P, 2, none⟩ = some (.int .u64 (p.fr : Int))) (b3 : W.cell? ⟨P, 3, none⟩ = some (.int .u64 (p.till : Int))) (b4 : W.cell? ⟨P, 4, none⟩ = some (.bool p.op)) (b5 : W.cell? ⟨P, 5, none⟩ = some (.int .u64 (p.kn : Int)))
 (HI0 : Hid (Tryz.prog.info? 55 = some i0 ∧ i0.zero = some (.agg #[.string ByteArray.empty, .int .i32 0, .int .u64 0, .int .u64 0, .bool false, .int .u64 0]) ∧ i0.size = 6 ∧ i0.bytes = 56)) (k1 : len1 + 1 ≤ maxLen) (k2 : (len1 + 1) * 56 ≤ 140737488355328) (HROW : Hid (∀ W2 : World, Kept (fun _ => False) W W2 → Row W2 55 6 (.slice a1 len1 c1) len1 xs))
 (HAP : Hid (∀ (W2 w' : World) (v' : Value), Kept (fun _ => False) W W2 → Appended W2 w' 55 6 (.slice a1 len1 c1) v' len1 1 xs (entC p) → w'.cell? ⟨b, 3, none⟩ = some (.slice (some ⟨g, 0, none⟩) n cap) ∧ w'.cell? ⟨g, k * 7 + 5, none⟩ = some (.slice a1 len1 c1) ∧ w'.cell? ⟨P, 0, none⟩ = some (.string p.q) ∧ w'.cell? ⟨P, 1, none⟩ = some (.int .i32 p.val) ∧ w'.cell? ⟨P, 2, none⟩ = some (.int .u64 (p.fr : Int)) ∧ w'.cell? ⟨P, 3, none⟩ = some (.int .u64 (p.till : Int)) ∧ w'.cell? ⟨P, 4, none⟩ = some (.bool p.op) ∧ w'.cell? ⟨P, 5, none⟩ = some (.int .u64 (p.kn : Int)) ∧ w'.frozen? ⟨g, k * 7 + 5, none⟩ = false ∧ Hid (F (w'.setCell ⟨g, k * 7 + 5, none⟩ v'))))
 (hfin : ∀ x161 x162 x163 x164 x165 x166 x167 x168 x169 x170 x171 x172 x173 x174 x175 x176 x177 x178 w'', F w'' → Q .normal ⟨#[.pointer (some ⟨b, 0, none⟩), u1, u2, u3, u4, u5, .pointer (some ⟨P, 0, none⟩), .int .i64 (k : Int), u8, u9, u10, u11, u12, u13, u14, u15, u16, u17, u18, u19, u20, u21, u22, u23, u24, u25, u26, u27, u28, u29, u30, u31, u32, u33, u34, u35, u36, u37, u38, u39, u40, u41, u42, u43, u44, u45, u46, u47, u48, u49, u50, u51, u52, u53, u54, u55, u56, u57, u58, u59, u60, u61, u62, u63, u64, u65, u66, u67, u68, u69, u70, u71, u72, u73, u74, u75, u76, u77, u78, u79, u80, u81, u82, u83, u84, u85, u86, u87, u88, u89, u90, u91, u92, u93, u94, u95, u96, u97, u98, u99, u100, u101, u102, u103, u104, u105, u106, u107, u108, u109, u110, u111, u112, u113, u114, u115, u116, u117, u118, u119, u120, u121, u122, u123, u124, u125, u126, u127, u128, u129, u130, u131, u132, u133, u134, u135, u136, u137, u138, u139, u140, u141, u142, u143, u144, u145, u146, u147, u148, u149, u150, u151, u152, u153, u154, u155, u156, u157, u158, u159, u160, x161, x162, x163, x164, x165, x166, x167, x168, x169, x170, x171, x172, x173, x174, x175, x176, x177, x178, u179, u180, u181, u182, u183, u184, u185, u186, u187, u188, u189, u190, u191, u192, u193, u194, u195, u196, u197, u198, u199, u200, u201, u202, u203, u204, u205, u206, u207, u208, u209, u210, u211, u212, u213, u214, u215, u216, u217, u218, u219], []⟩ w'') :
 (Code.region 21 #[{ dst := some 161, op := Op.move (Operand.tmp 0), type := 42, pos := "node.go:119", after := #[], guard := none }, { dst := some 162, op := Op.nilCheck (Operand.tmp 161), type := 0, pos := "node.go:119", after := #[{ on := 0, ground := Ground.data }], guard := none }, { dst := some 163, op := Op.fieldAddr 84 (Operand.tmp 162) 3, type := 0, pos := "node.go:119", after := #[{ on := 1, ground := Ground.data }], guard := none }, { dst := some 164, op := Op.load 82 (Operand.tmp 163), type := 82, pos := "node.go:119", after := #[{ on := 2, ground := Ground.data }], guard := none }, { dst := some 165, op := Op.move (Operand.tmp 7), type := 3, pos := "node.go:119", after := #[], guard := none }, { dst := some 166, op := Op.move (Operand.tmp 0), type := 42, pos := "node.go:119", after := #[], guard := none }, { dst := some 167, op := Op.nilCheck (Operand.tmp 166), type := 0, pos := "node.go:119", after := #[{ on := 5, ground := Ground.data }], guard := none }, { dst := some 168, op := Op.fieldAddr 84 (Operand.tmp 167) 3, type := 0, pos := "node.go:119", after := #[{ on := 6, ground := Ground.data }], guard := none }, { dst := some 169, op := Op.load 82 (Operand.tmp 168), type := 82, pos := "node.go:119", after := #[{ on := 7, ground := Ground.data }], guard := none }, { dst := some 170, op := Op.move (Operand.tmp 7), type := 3, pos := "node.go:119", after := #[], guard := none }, { dst := some 171, op := Op.indexAddr 82 (Operand.tmp 169) (Operand.tmp 170), type := 0, pos := "node.go:119", after := #[{ on := 8, ground := Ground.data }, { on := 9, ground := Ground.data }], guard := none }, { dst := some 172, op := Op.fieldAddr 146 (Operand.tmp 171) 5, type := 0, pos := "node.go:119", after := #[{ on := 10, ground := Ground.data }], guard := none }, { dst := some 173, op := Op.load 51 (Operand.tmp 172), type := 51, pos := "node.go:119", after := #[{ on := 11, ground := Ground.data }], guard := none }, { dst := some 174, op := Op.load 55 (Operand.tmp 6), type := 55, pos := "node.go:119", after := #[], guard := none }, { dst := some 175, op := Op.buildSlice 51 1 #[(0, Operand.tmp 174)], type := 51, pos := "node.go:119", after := #[{ on := 13, ground := Ground.data }], guard := none }, { dst := some 176, op := Op.call { callee := Callee.builtin Builtin.append, args := #[Operand.tmp 173, Operand.tmp 175], argTypes := #[51, 51] }, type := 51, pos := "node.go:119", after := #[{ on := 12, ground := Ground.data }, { on := 14, ground := Ground.data }], guard := none }, { dst := some 177, op := Op.indexAddr 82 (Operand.tmp 164) (Operand.tmp 165), type := 0, pos := "node.go:119", after := #[{ on := 3, ground := Ground.data }, { on := 4, ground := Ground.data }, { on := 0, ground := Ground.phase }, { on := 1, ground := Ground.phase }, { on := 2, ground := Ground.phase }, { on := 3, ground := Ground.phase }, { on := 4, ground := Ground.phase }, { on := 5, ground := Ground.phase }, { on := 6, ground := Ground.phase }, { on := 7, ground := Ground.phase }, { on := 8, ground := Ground.phase }, { on := 9, ground := Ground.phase }, { on := 10, ground := Ground.phase }, { on := 11, ground := Ground.phase }, { on := 12, ground := Ground.phase }, { on := 13, ground := Ground.phase }, { on := 14, ground := Ground.phase }, { on := 15, ground := Ground.phase }], guard := none }, { dst := some 178, op := Op.fieldAddr 146 (Operand.tmp 177) 5, type := 0, pos := "node.go:119", after := #[{ on := 16, ground := Ground.data }, { on := 0, ground := Ground.phase }, { on := 1, ground := Ground.phase }, { on := 2, ground := Ground.phase }, { on := 3, ground := Ground.phase }, { on := 4, ground := Ground.phase }, { on := 5, ground := Ground.phase }, { on := 6, ground := Ground.phase }, { on := 7, ground := Ground.phase }, { on := 8, ground := Ground.phase }, { on := 9, ground := Ground.phase }, { on := 10, ground := Ground.phase }, { on := 11, ground := Ground.phase }, { on := 12, ground := Ground.phase }, { on := 13, ground := Ground.phase }, { on := 14, ground := Ground.phase }, { on := 15, ground := Ground.phase }], guard := none }, { dst := none, op := Op.store 51 (Operand.tmp 178) (Operand.tmp 176), type := 0, pos := "node.go:119", after := #[{ on := 17, ground := Ground.data }, { on := 15, ground := Ground.data }, { on := 15, ground := Ground.chain }, { on := 0, ground := Ground.phase }, { on := 1, ground := Ground.phase }, { on := 2, ground := Ground.phase }, { on := 3, ground := Ground.phase }, { on := 4, ground := Ground.phase }, { on := 5, ground := Ground.phase }, { on := 6, ground := Ground.phase }, { on := 7, ground := Ground.phase }, { on := 8, ground := Ground.phase }, { on := 9, ground := Ground.phase }, { on := 10, ground := Ground.phase }, { on := 11, ground := Ground.phase }, { on := 12, ground := Ground.phase }, { on := 13, ground := Ground.phase }, { on := 14, ground := Ground.phase }, { on := 15, ground := Ground.phase }], guard := none }] true).wp Tryz.prog Q ⟨#[.pointer (some ⟨b, 0, none⟩), u1, u2, u3, u4, u5, .pointer (some ⟨P, 0, none⟩), .int .i64 (k : Int), u8, u9, u10, u11, u12, u13, u14, u15, u16, u17, u18, u19, u20, u21, u22, u23, u24, u25, u26, u27, u28, u29, u30, u31, u32, u33, u34, u35, u36, u37, u38, u39, u40, u41, u42, u43, u44, u45, u46, u47, u48, u49, u50, u51, u52, u53, u54, u55, u56, u57, u58, u59, u60, u61, u62, u63, u64, u65, u66, u67, u68, u69, u70, u71, u72, u73, u74, u75, u76, u77, u78, u79, u80, u81, u82, u83, u84, u85, u86, u87, u88, u89, u90, u91, u92, u93, u94, u95, u96, u97, u98, u99, u100, u101, u102, u103, u104, u105, u106, u107, u108, u109, u110, u111, u112, u113, u114, u115, u116, u117, u118, u119, u120, u121, u122, u123, u124, u125, u126, u127, u128, u129, u130, u131, u132, u133, u134, u135, u136, u137, u138, u139, u140, u141, u142, u143, u144, u145, u146, u147, u148, u149, u150, u151, u152, u153, u154, u155, u156, u157, u158, u159, u160, u161, u162, u163, u164, u165, u166, u167, u168, u169, u170, u171, u172, u173, u174, u175, u176, u177, u178, u179, u180, u181, u182, u183, u184, u185, u186, u187, u188, u189, u190, u191, u192, u193, u194, u195, u196, u197, u198, u199, u200, u201, u202, u203, u204, u205, u206, u207, u208, u209, u210, u211, u212, u213, u214, u215, u216, u217, u218, u219], []⟩ W := by
 refine startC 18 (fun w' => w'.cell? ⟨b, 3, none⟩ = some (.slice (some ⟨g, 0, none⟩) n cap) ∧ w'.cell? ⟨g, k * 7 + 5, none⟩ = some (.slice a1 len1 c1) ∧ w'.cell? ⟨P, 0, none⟩ = some (.string p.q) ∧ w'.cell? ⟨P, 1, none⟩ = some (.int .i32 p.val) ∧ w'.cell? ⟨P, 2, none⟩ = some (.int .u64 (p.fr : Int)) ∧ w'.cell? ⟨P, 3, none⟩ = some (.int .u64 (p.till : Int)) ∧ w'.cell? ⟨P, 4, none⟩ = some (.bool p.op) ∧ w'.cell? ⟨P, 5, none⟩ = some (.int .u64 (p.kn : Int))) (by kernel_rfl) ?_
 have hS : (fun w' => w'.cell? ⟨b, 3, none⟩ = some (.slice (some ⟨g, 0, none⟩) n cap) ∧ w'.cell? ⟨g, k * 7 + 5, none⟩ = some (.slice a1 len1 c1) ∧ w'.cell? ⟨P, 0, none⟩ = some (.string p.q) ∧ w'.cell? ⟨P, 1, none⟩ = some (.int .i32 p.val) ∧ w'.cell? ⟨P, 2, none⟩ = some (.int .u64 (p.fr : Int)) ∧ w'.cell? ⟨P, 3, none⟩ = some (.int .u64 (p.till : Int)) ∧ w'.cell? ⟨P, 4, none⟩ = some (.bool p.op) ∧ w'.cell? ⟨P, 5, none⟩ = some (.int .u64 (p.kn : Int))) W.drew := ⟨n3, n5, b0, b1, b2, b3, b4, b5⟩
 refine takeC (i := 0) (v := ?_) rfl (by kernel_rfl) (by kernel_rfl) (by kernel_rfl) (by kernel_rfl) (fun x a w h => hP x a _ _ w h) hS (Or.inl ⟨by rfl, ?_⟩) ?_
 rotate_left
 · (intro w hSw; (try dsimp only at hSw); go_simp; first | done | with_reducible rfl)
 simp only [Act.put]
 refine takeC (i := 1) (v := ?_) rfl (by kernel_rfl) (by kernel_rfl) (by kernel_rfl) (by kernel_rfl) (fun x a w h => hP x a _ _ w h) hS (Or.inl ⟨by rfl, ?_⟩) ?_
 rotate_left
 · (intro w hSw; (try dsimp only at hSw); go_simp; first | done | with_reducible rfl)
 simp only [Act.put]
 refine takeC (i := 2) (v := ?_) rfl (by kernel_rfl) (by kernel_rfl) (by kernel_rfl) (by kernel_rfl) (fun x a w h => hP x a _ _ w h) hS (Or.inl ⟨by rfl, ?_⟩) ?_
 rotate_left
 · (intro w hSw; (try dsimp only at hSw); go_simp; first | done | with_reducible rfl)
 simp only [Act.put]
 refine takeC (i := 3) (v := ?_) rfl (by kernel_rfl) (by kernel_rfl) (by kernel_rfl) (by kernel_rfl) (fun x a w h => hP x a _ _ w h) hS (Or.inl ⟨by rfl, ?_⟩) ?_
 rotate_left
 · (intro w hSw; (try dsimp only at hSw); go_simp; first | done | with_reducible rfl)
 simp only [Act.put]
 refine takeC (i := 4) (v := ?_) rfl (by kernel_rfl) (by kernel_rfl) (by kernel_rfl) (by kernel_rfl) (fun x a w h => hP x a _ _ w h) hS (Or.inl ⟨by rfl, ?_⟩) ?_
 rotate_left
 · (intro w hSw; (try dsimp only at hSw); go_simp; first | done | with_reducible rfl)
 simp only [Act.put]
 refine takeC (i := 5) (v := ?_) rfl (by kernel_rfl) (by kernel_rfl) (by kernel_rfl) (by kernel_rfl) (fun x a w h => hP x a _ _ w h) hS (Or.inl ⟨by rfl, ?_⟩) ?_
 rotate_left
 · (intro w hSw; (try dsimp only at hSw); go_simp; first | done | with_reducible rfl)
 simp only [Act.put]
 refine takeC (i := 6) (v := ?_) rfl (by kernel_rfl) (by kernel_rfl) (by kernel_rfl) (by kernel_rfl) (fun x a w h => hP x a _ _ w h) hS (Or.inl ⟨by rfl, ?_⟩) ?_
 rotate_left
 · (intro w hSw; (try dsimp only at hSw); go_simp; first | done | with_reducible rfl)
 simp only [Act.put]
 refine takeC (i := 7) (v := ?_) rfl (by kernel_rfl) (by kernel_rfl) (by kernel_rfl) (by kernel_rfl) (fun x a w h => hP x a _ _ w h) hS (Or.inl ⟨by rfl, ?_⟩) ?_
 rotate_left
 · (intro w hSw; (try dsimp only at hSw); go_simp; first | done | with_reducible rfl)
 simp only [Act.put]
 refine takeC (i := 8) (v := ?_) rfl (by kernel_rfl) (by kernel_rfl) (by kernel_rfl) (by kernel_rfl) (fun x a w h => hP x a _ _ w h) hS (Or.inl ⟨by rfl, ?_⟩) ?_
 rotate_left
 · (intro w hSw; (try dsimp only at hSw); go_simp; first | done | with_reducible rfl)
 simp only [Act.put]
 refine takeC (i := 9) (v := ?_) rfl (by kernel_rfl) (by kernel_rfl) (by kernel_rfl) (by kernel_rfl) (fun x a w h => hP x a _ _ w h) hS (Or.inl ⟨by rfl, ?_⟩) ?_
 rotate_left
 · (intro w hSw; (try dsimp only at hSw); go_simp; first | done | with_reducible rfl)
 simp only [Act.put]
 refine takeC (i := 10) (v := ?_) rfl (by kernel_rfl) (by kernel_rfl) (by kernel_rfl) (by kernel_rfl) (fun x a w h => hP x a _ _ w h) hS (Or.inl ⟨by rfl, ?_⟩) ?_
 rotate_left
 · (intro w hSw; (try dsimp only at hSw); go_simp; first | done | with_reducible rfl)
 simp only [Act.put]
 refine takeC (i := 11) (v := ?_) rfl (by kernel_rfl) (by kernel_rfl) (by kernel_rfl) (by kernel_rfl) (fun x a w h => hP x a _ _ w h) hS (Or.inl ⟨by rfl, ?_⟩) ?_
 rotate_left
 · (intro w hSw; (try dsimp only at hSw); go_simp; first | done | with_reducible rfl)
 simp only [Act.put]
 refine takeC (i := 12) (v := ?_) rfl (by kernel_rfl) (by kernel_rfl) (by kernel_rfl) (by kernel_rfl) (fun x a w h => hP x a _ _ w h) hS (Or.inl ⟨by rfl, ?_⟩) ?_
 rotate_left
 · (intro w hSw; (try dsimp only at hSw); go_simp; first | done | with_reducible rfl)
 simp only [Act.put]
 refine takeC (i := 13) (v := ?_) rfl (by kernel_rfl) (by kernel_rfl) (by kernel_rfl) (by kernel_rfl) (fun x a w h => hP x a _ _ w h) hS (Or.inl ⟨by rfl, ?_⟩) ?_
 rotate_left
 · (intro w hSw; (try dsimp only at hSw); go_simp; first | done | with_reducible rfl)
 simp only [Act.put]
 refine stepC (j := 14) (by kernel_rfl) (by rfl) rfl (by decide) (fun K hK => ?_)
 go_simp
 refine hK.out _ _ ⟨hold_al (w := W.drew) n3, hold_al (w := W.drew) n5, hold_al (w := W.drew) b0, hold_al (w := W.drew) b1, hold_al (w := W.drew) b2, hold_al (w := W.drew) b3, hold_al (w := W.drew) b4, hold_al (w := W.drew) b5⟩ ?_
 clear hK K hS
 refine stepC (j := 15) (by kernel_rfl) (by rfl) rfl (by decide) (fun K hK => ?_)
 refine wp_append_mine _ (.tmp 173) (.tmp 175) 51 rfl 55 i0 (.agg #[.string ByteArray.empty, .int .i32 0, .int .u64 0, .int .u64 0, .bool false, .int .u64 0]) 6 56 Tryz.underlying51 HI0.out.1 HI0.out.2.1 HI0.out.2.2.1 HI0.out.2.2.2 rfl (Nat.succ_pos 5) (.slice a1 len1 c1) len1 xs rfl (HROW.out _ ((Kept.refl _ _).drew.allocNew _)) ⟨W.heap.size, 0, none⟩ 1 1 (entC p) rfl rfl (fun j u hj => news_ent W.drew p _ j u hj) (oneCell_one p) k1 k2 (fun v' w' hA => ?_)
 obtain ⟨p1, p2, l0, l1, l2, l3, l4, l5, p3, p4⟩ := HAP.out _ _ _ ((Kept.refl _ _).drew.allocNew _) hA
 obtain ⟨ao', cap', hv', _⟩ := hA.row.form
 clear hA
 subst hv'
 have hS : (fun w' => w'.cell? ⟨b, 3, none⟩ = some (.slice (some ⟨g, 0, none⟩) n cap) ∧ w'.cell? ⟨g, k * 7 + 5, none⟩ = some (.slice a1 len1 c1) ∧ w'.cell? ⟨P, 0, none⟩ = some (.string p.q) ∧ w'.cell? ⟨P, 1, none⟩ = some (.int .i32 p.val) ∧ w'.cell? ⟨P, 2, none⟩ = some (.int .u64 (p.fr : Int)) ∧ w'.cell? ⟨P, 3, none⟩ = some (.int .u64 (p.till : Int)) ∧ w'.cell? ⟨P, 4, none⟩ = some (.bool p.op) ∧ w'.cell? ⟨P, 5, none⟩ = some (.int .u64 (p.kn : Int))) w' := ⟨p1, p2, l0, l1, l2, l3, l4, l5⟩
 refine hK.out _ _ hS ?_
 clear hK K
 simp only [Act.put]
 refine stepC (j := 16) (by kernel_rfl) (by rfl) rfl (by decide) (fun K hK => ?_)
 go_simp
 refine hK.out _ _ hS ?_
 clear hK K
 refine stepC (j := 17) (by kernel_rfl) (by rfl) rfl (by decide) (fun K hK => ?_)
 go_simp
 refine hK.out _ _ hS ?_
 clear hK K
 refine lastC (by kernel_rfl) (by rfl) rfl (by kernel_rfl) (fun K hK => ?_)
 go_simp
 refine hK.out _ _ ?_
 exact hfin _ _ _ _ _ _ _ _ _ _ _ _ _ _ _ _ _ _ _ p4.out
theorem region22 {Q : Exit → Act → World → Prop} {F : World → Prop} {W : World} {b g k n cap len1 c1 : Nat} {a1 : Option Addr} {xs : List Value} {nx : Int} {i0 : TypeInfo} {u1 u2 u3 u4 u5 u6 u8 u9 u10 u11 u12 u13 u14 u15 u16 u17 u18 u19 u20 u21 u22 u23 u24 u25 u26 u27 u28 u29 u30 u31 u32 u33 u34 u35 u36 u37 u38 u39 u40 u41 u42 u43 u44 u45 u46 u47 u48 u49 u50 u51 u52 u53 u54 u55 u56 u57 u58 u59 u60 u61 u62 u63 u64 u65 u66 u67 u68 u69 u70 u71 u72 u73 u74 u75 u76 u77 u78 u79 u80 u81 u82 u83 u84 u85 u86 u87 u88 u89 u90 u91 u92 u93 u94 u95 u96 u97 u98 u99 u100 u101 u102 u103 u104 u105 u106 u107 u108 u109 u110 u111 u112 u113 u114 u115 u116 u117 u118 u119 u120 u121 u122 u123 u124 u125 u126 u127 u128 u129 u130 u131 u132 u133 u134 u135 u136 u137 u138 u139 u140 u141 u142 u143 u144 u145 u146 u147 u148 u149 u150 u151 u152 u153 u154 u155 u156 u157 u158 u159 u160 u161 u162 u163 u164 u165 u166 u167 u168 u169 u170 u171 u172 u173 u174 u175 u176 u177 u178 u179 u180 u181 u182 u183 u184 u185 u186 u187 u188 u189 u190 u191 u192 u193 u194 u195 u196 u197 u198 u199 u200 u201 u202 u203 u204 u205 u206 u207 u208 u209 u210 u211 u212 u213 u214 u215 u216 u217 u218 u219 : Value}
 (hP : ∀ x (a : Act) (d : Nat) v w, Q (.panic x) (a.put (some d) v) w → Q (.panic x) a w) (hk0 : (0 : Int) ≤ (k : Int)) (hk1 : (k : Int) < (n : Int)) (n3 : W.cell? ⟨b, 3, none⟩ = some (.slice (some ⟨g, 0, none⟩) n cap)) (n6 : W.cell? ⟨g, k * 7 + 6, none⟩ = some (.slice a1 len1 c1)) (m7 : W.cell? ⟨b, 7, none⟩ = some (.int .i64 nx)) (HI0 : Hid (Tryz.prog.info? 3 = some i0 ∧ i0.zero = some (.int .i64 0) ∧ i0.size = 1 ∧ i0.bytes = 8)) (k1 : len1 + 1 ≤ maxLen) (k2 : (len1 + 1) * 8 ≤ 140737488355328) (HROW : Hid (∀ W2 : World, Kept (fun _ => False) W W2 → Row W2 3 1 (.slice a1 len1 c1) len1 xs))
 (HAP : Hid (∀ (W2 w' : World) (v' : Value), Kept (fun _ => False) W W2 → Appended W2 w' 3 1 (.slice a1 len1 c1) v' len1 1 xs [.int .i64 nx] → w'.cell? ⟨b, 3, none⟩ = some (.slice (some ⟨g, 0, none⟩) n cap) ∧ w'.cell? ⟨g, k * 7 + 6, none⟩ = some (.slice a1 len1 c1) ∧ w'.cell? ⟨b, 7, none⟩ = some (.int .i64 nx) ∧ w'.frozen? ⟨g, k * 7 + 6, none⟩ = false ∧ Hid (F (w'.setCell ⟨g, k * 7 + 6, none⟩ v'))))
 (hfin : ∀ x179 x180 x181 x182 x183 x184 x185 x186 x187 x188 x189 x190 x191 x192 x193 x194 x195 x196 x197 x198 x199 w'', F w'' → Q .normal ⟨#[.pointer (some ⟨b, 0, none⟩), u1, u2, u3, u4, u5, u6, .int .i64 (k : Int), u8, u9, u10, u11, u12, u13, u14, u15, u16, u17, u18, u19, u20, u21, u22, u23, u24, u25, u26, u27, u28, u29, u30, u31, u32, u33, u34, u35, u36, u37, u38, u39, u40, u41, u42, u43, u44, u45, u46, u47, u48, u49, u50, u51, u52, u53, u54, u55, u56, u57, u58, u59, u60, u61, u62, u63, u64, u65, u66, u67, u68, u69, u70, u71, u72, u73, u74, u75, u76, u77, u78, u79, u80, u81, u82, u83, u84, u85, u86, u87, u88, u89, u90, u91, u92, u93, u94, u95, u96, u97, u98, u99, u100, u101, u102, u103, u104, u105, u106, u107, u108, u109, u110, u111, u112, u113, u114, u115, u116, u117, u118, u119, u120, u121, u122, u123, u124, u125, u126, u127, u128, u129, u130, u131, u132, u133, u134, u135, u136, u137, u138, u139, u140, u141, u142, u143, u144, u145, u146, u147, u148, u149, u150, u151, u152, u153, u154, u155, u156, u157, u158, u159, u160, u161, u162, u163, u164, u165, u166, u167, u168, u169, u170, u171, u172, u173, u174, u175, u176, u177, u178, x179, x180, x181, x182, x183, x184, x185, x186, x187, x188, x189, x190, x191, x192, x193, x194, x195, x196, x197, x198, x199, u200, u201, u202, u203, u204, u205, u206, u207, u208, u209, u210, u211, u212, u213, u214, u215, u216, u217, u218, u219], []⟩ w'') :
 (Code.region 22 #[{ dst := some 179, op := Op.move (Operand.tmp 0), type := 42, pos := "node.go:120", after := #[], guard := none }, { dst := some 180, op := Op.nilCheck (Operand.tmp 179), type := 0, pos := "node.go:120", after := #[{ on := 0, ground := Ground.data }], guard := none }, { dst := some 181, op := Op.fieldAddr 84 (Operand.tmp 180) 3, type := 0, pos := "node.go:120", after := #[{ on := 1, ground := Ground.data }], guard := none }, { dst := some 182, op := Op.load 82 (Operand.tmp 181), type := 82, pos := "node.go:120", after := #[{ on := 2, ground := Ground.data }], guard := none }, { dst := some 183, op := Op.move (Operand.tmp 7), type := 3, pos := "node.go:120", after := #[], guard := none }, { dst := some 184, op := Op.move (Operand.tmp 0), type := 42, pos := "node.go:120", after := #[], guard := none }, { dst := some 185, op := Op.nilCheck (Operand.tmp 184), type := 0, pos := "node.go:120", after := #[{ on := 5, ground := Ground.data }], guard := none }, { dst := some 186, op := Op.fieldAddr 84 (Operand.tmp 185) 3, type := 0, pos := "node.go:120", after := #[{ on := 6, ground := Ground.data }], guard := none }, { dst := some 187, op := Op.load 82 (Operand.tmp 186), type := 82, pos := "node.go:120", after := #[{ on := 7, ground := Ground.data }], guard := none }, { dst := some 188, op := Op.move (Operand.tmp 7), type := 3, pos := "node.go:120", after := #[], guard := none }, { dst := some 189, op := Op.indexAddr 82 (Operand.tmp 187) (Operand.tmp 188), type := 0, pos := "node.go:120", after := #[{ on := 8, ground := Ground.data }, { on := 9, ground := Ground.data }], guard := none }, { dst := some 190, op := Op.fieldAddr 146 (Operand.tmp 189) 6, type := 0, pos := "node.go:120", after := #[{ on := 10, ground := Ground.data }], guard := none }, { dst := some 191, op := Op.load 24 (Operand.tmp 190), type := 24, pos := "node.go:120", after := #[{ on := 11, ground := Ground.data }], guard := none }, { dst := some 192, op := Op.move (Operand.tmp 0), type := 42, pos := "node.go:120", after := #[], guard := none }, { dst := some 193, op := Op.nilCheck (Operand.tmp 192), type := 0, pos := "node.go:120", after := #[{ on := 13, ground := Ground.data }], guard := none }, { dst := some 194, op := Op.fieldAddr 84 (Operand.tmp 193) 7, type := 0, pos := "node.go:120", after := #[{ on := 14, ground := Ground.data }], guard := none }, { dst := some 195, op := Op.load 3 (Operand.tmp 194), type := 3, pos := "node.go:120", after := #[{ on := 15, ground := Ground.data }], guard := none }, { dst := some 196, op := Op.buildSlice 24 1 #[(0, Operand.tmp 195)], type := 24, pos := "node.go:120", after := #[{ on := 16, ground := Ground.data }], guard := none }, { dst := some 197, op := Op.call { callee := Callee.builtin Builtin.append, args := #[Operand.tmp 191, Operand.tmp 196], argTypes := #[24, 24] }, type := 24, pos := "node.go:120", after := #[{ on := 12, ground := Ground.data }, { on := 17, ground := Ground.data }], guard := none }, { dst := some 198, op := Op.indexAddr 82 (Operand.tmp 182) (Operand.tmp 183), type := 0, pos := "node.go:120", after := #[{ on := 3, ground := Ground.data }, { on := 4, ground := Ground.data }, { on := 0, ground := Ground.phase }, { on := 1, ground := Ground.phase }, { on := 2, ground := Ground.phase }, { on := 3, ground := Ground.phase }, { on := 4, ground := Ground.phase }, { on := 5, ground := Ground.phase }, { on := 6, ground := Ground.phase }, { on := 7, ground := Ground.phase }, { on := 8, ground := Ground.phase }, { on := 9, ground := Ground.phase }, { on := 10, ground := Ground.phase }, { on := 11, ground := Ground.phase }, { on := 12, ground := Ground.phase }, { on := 13, ground := Ground.phase }, { on := 14, ground := Ground.phase }, { on := 15, ground := Ground.phase }, { on := 16, ground := Ground.phase }, { on := 17, ground := Ground.phase }, { on := 18, ground := Ground.phase }], guard := none }, { dst := some 199, op := Op.fieldAddr 146 (Operand.tmp 198) 6, type := 0, pos := "node.go:120", after := #[{ on := 19, ground := Ground.data }, { on := 0, ground := Ground.phase }, { on := 1, ground := Ground.phase }, { on := 2, ground := Ground.phase }, { on := 3, ground := Ground.phase }, { on := 4, ground := Ground.phase }, { on := 5, ground := Ground.phase }, { on := 6, ground := Ground.phase }, { on := 7, ground := Ground.phase }, { on := 8, ground := Ground.phase }, { on := 9, ground := Ground.phase }, { on := 10, ground := Ground.phase }, { on := 11, ground := Ground.phase }, { on := 12, ground := Ground.phase }, { on := 13, ground := Ground.phase }, { on := 14, ground := Ground.phase }, { on := 15, ground := Ground.phase }, { on := 16, ground := Ground.phase }, { on := 17, ground := Ground.phase }, { on := 18, ground := Ground.phase }], guard := none }, { dst := none, op := Op.store 24 (Operand.tmp 199) (Operand.tmp 197), type := 0, pos := "node.go:120", after := #[{ on := 20, ground := Ground.data }, { on := 18, ground := Ground.data }, { on := 18, ground := Ground.chain }, { on := 0, ground := Ground.phase }, { on := 1, ground := Ground.phase }, { on := 2, ground := Ground.phase }, { on := 3, ground := Ground.phase }, { on := 4, ground := Ground.phase }, { on := 5, ground := Ground.phase }, { on := 6, ground := Ground.phase }, { on := 7, ground := Ground.phase }, { on := 8, ground := Ground.phase }, { on := 9, ground := Ground.phase }, { on := 10, ground := Ground.phase }, { on := 11, ground := Ground.phase }, { on := 12, ground := Ground.phase }, { on := 13, ground := Ground.phase }, { on := 14, ground := Ground.phase }, { on := 15, ground := Ground.phase }, { on := 16, ground := Ground.phase }, { on := 17, ground := Ground.phase }, { on := 18, ground := Ground.phase }], guard := none }] true).wp Tryz.prog Q ⟨#[.pointer (some ⟨b, 0, none⟩), u1, u2, u3, u4, u5, u6, .int .i64 (k : Int), u8, u9, u10, u11, u12, u13, u14, u15, u16, u17, u18, u19, u20, u21, u22, u23, u24, u25, u26, u27, u28, u29, u30, u31, u32, u33, u34, u35, u36, u37, u38, u39, u40, u41, u42, u43, u44, u45, u46, u47, u48, u49, u50, u51, u52, u53, u54, u55, u56, u57, u58, u59, u60, u61, u62, u63, u64, u65, u66, u67, u68, u69, u70, u71, u72, u73, u74, u75, u76, u77, u78, u79, u80, u81, u82, u83, u84, u85, u86, u87, u88, u89, u90, u91, u92, u93, u94, u95, u96, u97, u98, u99, u100, u101, u102, u103, u104, u105, u106, u107, u108, u109, u110, u111, u112, u113, u114, u115, u116, u117, u118, u119, u120, u121, u122, u123, u124, u125, u126, u127, u128, u129, u130, u131, u132, u133, u134, u135, u136, u137, u138, u139, u140, u141, u142, u143, u144, u145, u146, u147, u148, u149, u150, u151, u152, u153, u154, u155, u156, u157, u158, u159, u160, u161, u162, u163, u164, u165, u166, u167, u168, u169, u170, u171, u172, u173, u174, u175, u176, u177, u178, u179, u180, u181, u182, u183, u184, u185, u186, u187, u188, u189, u190, u191, u192, u193, u194, u195, u196, u197, u198, u199, u200, u201, u202, u203, u204, u205, u206, u207, u208, u209, u210, u211, u212, u213, u214, u215, u216, u217, u218, u219], []⟩ W := by
 refine startC 21 (fun w' => w'.cell? ⟨b, 3, none⟩ = some (.slice (some ⟨g, 0, none⟩) n cap) ∧ w'.cell? ⟨g, k * 7 + 6, none⟩ = some (.slice a1 len1 c1) ∧ w'.cell? ⟨b, 7, none⟩ = some (.int .i64 nx)) (by kernel_rfl) ?_
 have hS : (fun w' => w'.cell? ⟨b, 3, none⟩ = some (.slice (some ⟨g, 0, none⟩) n cap) ∧ w'.cell? ⟨g, k * 7 + 6, none⟩ = some (.slice a1 len1 c1) ∧ w'.cell? ⟨b, 7, none⟩ = some (.int .i64 nx)) W.drew := ⟨n3, n6, m7⟩
 refine takeC (i := 0) (v := ?_) rfl (by kernel_rfl) (by kernel_rfl) (by kernel_rfl) (by kernel_rfl) (fun x a w h => hP x a _ _ w h) hS (Or.inl ⟨by rfl, ?_⟩) ?_
 rotate_left
 · (intro w hSw; (try dsimp only at hSw); go_simp; first | done | with_reducible rfl)
 simp only [Act.put]
 refine takeC (i := 1) (v := ?_) rfl (by kernel_rfl) (by kernel_rfl) (by kernel_rfl) (by kernel_rfl) (fun x a w h => hP x a _ _ w h) hS (Or.inl ⟨by rfl, ?_⟩) ?_
 rotate_left
 · (intro w hSw; (try dsimp only at hSw); go_simp; first | done | with_reducible rfl)
 simp only [Act.put]
 refine takeC (i := 2) (v := ?_) rfl (by kernel_rfl) (by kernel_rfl) (by kernel_rfl) (by kernel_rfl) (fun x a w h => hP x a _ _ w h) hS (Or.inl ⟨by rfl, ?_⟩) ?_
 rotate_left
 · (intro w hSw; (try dsimp only at hSw); go_simp; first | done | with_reducible rfl)
 simp only [Act.put]
 refine takeC (i := 3) (v := ?_) rfl (by kernel_rfl) (by kernel_rfl) (by kernel_rfl) (by kernel_rfl) (fun x a w h => hP x a _ _ w h) hS (Or.inl ⟨by rfl, ?_⟩) ?_
 rotate_left
 · (intro w hSw; (try dsimp only at hSw); go_simp; first | done | with_reducible rfl)
 simp only [Act.put]
 refine takeC (i := 4) (v := ?_) rfl (by kernel_rfl) (by kernel_rfl) (by kernel_rfl) (by kernel_rfl) (fun x a w h => hP x a _ _ w h) hS (Or.inl ⟨by rfl, ?_⟩) ?_
 rotate_left
 · (intro w hSw; (try dsimp only at hSw); go_simp; first | done | with_reducible rfl)
 simp only [Act.put]
 refine takeC (i := 5) (v := ?_) rfl (by kernel_rfl) (by kernel_rfl) (by kernel_rfl) (by kernel_rfl) (fun x a w h => hP x a _ _ w h) hS (Or.inl ⟨by rfl, ?_⟩) ?_
 rotate_left
 · (intro w hSw; (try dsimp only at hSw); go_simp; first | done | with_reducible rfl)
 simp only [Act.put]
 refine takeC (i := 6) (v := ?_) rfl (by kernel_rfl) (by kernel_rfl) (by kernel_rfl) (by kernel_rfl) (fun x a w h => hP x a _ _ w h) hS (Or.inl ⟨by rfl, ?_⟩) ?_
 rotate_left
 · (intro w hSw; (try dsimp only at hSw); go_simp; first | done | with_reducible rfl)
 simp only [Act.put]
 refine takeC (i := 7) (v := ?_) rfl (by kernel_rfl) (by kernel_rfl) (by kernel_rfl) (by kernel_rfl) (fun x a w h => hP x a _ _ w h) hS (Or.inl ⟨by rfl, ?_⟩) ?_
 rotate_left
 · (intro w hSw; (try dsimp only at hSw); go_simp; first | done | with_reducible rfl)
 simp only [Act.put]
 refine takeC (i := 8) (v := ?_) rfl (by kernel_rfl) (by kernel_rfl) (by kernel_rfl) (by kernel_rfl) (fun x a w h => hP x a _ _ w h) hS (Or.inl ⟨by rfl, ?_⟩) ?_
 rotate_left
 · (intro w hSw; (try dsimp only at hSw); go_simp; first | done | with_reducible rfl)
 simp only [Act.put]
 refine takeC (i := 9) (v := ?_) rfl (by kernel_rfl) (by kernel_rfl) (by kernel_rfl) (by kernel_rfl) (fun x a w h => hP x a _ _ w h) hS (Or.inl ⟨by rfl, ?_⟩) ?_
 rotate_left
 · (intro w hSw; (try dsimp only at hSw); go_simp; first | done | with_reducible rfl)
 simp only [Act.put]
 refine takeC (i := 10) (v := ?_) rfl (by kernel_rfl) (by kernel_rfl) (by kernel_rfl) (by kernel_rfl) (fun x a w h => hP x a _ _ w h) hS (Or.inl ⟨by rfl, ?_⟩) ?_
 rotate_left
 · (intro w hSw; (try dsimp only at hSw); go_simp; first | done | with_reducible rfl)
 simp only [Act.put]
 refine takeC (i := 11) (v := ?_) rfl (by kernel_rfl) (by kernel_rfl) (by kernel_rfl) (by kernel_rfl) (fun x a w h => hP x a _ _ w h) hS (Or.inl ⟨by rfl, ?_⟩) ?_
 rotate_left
 · (intro w hSw; (try dsimp only at hSw); go_simp; first | done | with_reducible rfl)
 simp only [Act.put]
 refine takeC (i := 12) (v := ?_) rfl (by kernel_rfl) (by kernel_rfl) (by kernel_rfl) (by kernel_rfl) (fun x a w h => hP x a _ _ w h) hS (Or.inl ⟨by rfl, ?_⟩) ?_
 rotate_left
 · (intro w hSw; (try dsimp only at hSw); go_simp; first | done | with_reducible rfl)
 simp only [Act.put]
 refine takeC (i := 13) (v := ?_) rfl (by kernel_rfl) (by kernel_rfl) (by kernel_rfl) (by kernel_rfl) (fun x a w h => hP x a _ _ w h) hS (Or.inl ⟨by rfl, ?_⟩) ?_
 rotate_left
 · (intro w hSw; (try dsimp only at hSw); go_simp; first | done | with_reducible rfl)
 simp only [Act.put]
 refine takeC (i := 14) (v := ?_) rfl (by kernel_rfl) (by kernel_rfl) (by kernel_rfl) (by kernel_rfl) (fun x a w h => hP x a _ _ w h) hS (Or.inl ⟨by rfl, ?_⟩) ?_
 rotate_left
 · (intro w hSw; (try dsimp only at hSw); go_simp; first | done | with_reducible rfl)
 simp only [Act.put]
 refine takeC (i := 15) (v := ?_) rfl (by kernel_rfl) (by kernel_rfl) (by kernel_rfl) (by kernel_rfl) (fun x a w h => hP x a _ _ w h) hS (Or.inl ⟨by rfl, ?_⟩) ?_
 rotate_left
 · (intro w hSw; (try dsimp only at hSw); go_simp; first | done | with_reducible rfl)
 simp only [Act.put]
 refine takeC (i := 16) (v := ?_) rfl (by kernel_rfl) (by kernel_rfl) (by kernel_rfl) (by kernel_rfl) (fun x a w h => hP x a _ _ w h) hS (Or.inl ⟨by rfl, ?_⟩) ?_
 rotate_left
 · (intro w hSw; (try dsimp only at hSw); go_simp; first | done | with_reducible rfl)
 simp only [Act.put]
 refine stepC (j := 17) (by kernel_rfl) (by rfl) rfl (by decide) (fun K hK => ?_)
 go_simp
 refine hK.out _ _ ⟨hold_al (w := W.drew) n3, hold_al (w := W.drew) n6, hold_al (w := W.drew) m7⟩ ?_
 clear hK K hS
 refine stepC (j := 18) (by kernel_rfl) (by rfl) rfl (by decide) (fun K hK => ?_)
 refine wp_append_mine _ (.tmp 191) (.tmp 196) 24 rfl 3 i0 (.int .i64 0) 1 8 Tryz.underlying24 HI0.out.1 HI0.out.2.1 HI0.out.2.2.1 HI0.out.2.2.2 rfl (Nat.succ_pos 0) (.slice a1 len1 c1) len1 xs rfl (HROW.out _ ((Kept.refl _ _).drew.allocNew _)) ⟨W.heap.size, 0, none⟩ 1 1 [.int .i64 nx] rfl rfl (fun j u hj => news_one W.drew _ _ j u hj) (oneCell_int nx) k1 k2 (fun v' w' hA => ?_)
 obtain ⟨p1, p2, l0, p3, p4⟩ := HAP.out _ _ _ ((Kept.refl _ _).drew.allocNew _) hA
 obtain ⟨ao', cap', hv', _⟩ := hA.row.form
 clear hA
 subst hv'
 have hS : (fun w' => w'.cell? ⟨b, 3, none⟩ = some (.slice (some ⟨g, 0, none⟩) n cap) ∧ w'.cell? ⟨g, k * 7 + 6, none⟩ = some (.slice a1 len1 c1) ∧ w'.cell? ⟨b, 7, none⟩ = some (.int .i64 nx)) w' := ⟨p1, p2, l0⟩
 refine hK.out _ _ hS ?_
 clear hK K
 simp only [Act.put]
 refine stepC (j := 19) (by kernel_rfl) (by rfl) rfl (by decide) (fun K hK => ?_)
 go_simp
 refine hK.out _ _ hS ?_
 clear hK K
 refine stepC (j := 20) (by kernel_rfl) (by rfl) rfl (by decide) (fun K hK => ?_)
 go_simp
 refine hK.out _ _ hS ?_
 clear hK K
 refine lastC (by kernel_rfl) (by rfl) rfl (by kernel_rfl) (fun K hK => ?_)
 go_simp
 refine hK.out _ _ ?_
 exact hfin _ _ _ _ _ _ _ _ _ _ _ _ _ _ _ _ _ _ _ _ _ _ p4.out
theorem region23 {Q : Exit → Act → World → Prop} {F : World → Prop} {W : World} {b len1 c1 : Nat} {a1 : Option Addr} {xs : List Value} {nx : Int} {i0 : TypeInfo} {u1 u2 u3 u4 u5 u6 u7 u8 u9 u10 u11 u12 u13 u14 u15 u16 u17 u18 u19 u20 u21 u22 u23 u24 u25 u26 u27 u28 u29 u30 u31 u32 u33 u34 u35 u36 u37 u38 u39 u40 u41 u42 u43 u44 u45 u46 u47 u48 u49 u50 u51 u52 u53 u54 u55 u56 u57 u58 u59 u60 u61 u62 u63 u64 u65 u66 u67 u68 u69 u70 u71 u72 u73 u74 u75 u76 u77 u78 u79 u80 u81 u82 u83 u84 u85 u86 u87 u88 u89 u90 u91 u92 u93 u94 u95 u96 u97 u98 u99 u100 u101 u102 u103 u104 u105 u106 u107 u108 u109 u110 u111 u112 u113 u114 u115 u116 u117 u118 u119 u120 u121 u122 u123 u124 u125 u126 u127 u128 u129 u130 u131 u132 u133 u134 u135 u136 u137 u138 u139 u140 u141 u142 u143 u144 u145 u146 u147 u148 u149 u150 u151 u152 u153 u154 u155 u156 u157 u158 u159 u160 u161 u162 u163 u164 u165 u166 u167 u168 u169 u170 u171 u172 u173 u174 u175 u176 u177 u178 u179 u180 u181 u182 u183 u184 u185 u186 u187 u188 u189 u190 u191 u192 u193 u194 u195 u196 u197 u198 u199 u200 u201 u202 u203 u204 u205 u206 u207 u208 u209 u210 u211 u212 u213 u214 u215 u216 u217 u218 u219 : Value}
 (hP : ∀ x (a : Act) (d : Nat) v w, Q (.panic x) (a.put (some d) v) w → Q (.panic x) a w) (n6 : W.cell? ⟨b, 6, none⟩ = some (.slice a1 len1 c1)) (m7 : W.cell? ⟨b, 7, none⟩ = some (.int .i64 nx)) (HI0 : Hid (Tryz.prog.info? 3 = some i0 ∧ i0.zero = some (.int .i64 0) ∧ i0.size = 1 ∧ i0.bytes = 8)) (k1 : len1 + 1 ≤ maxLen) (k2 : (len1 + 1) * 8 ≤ 140737488355328) (HROW : Hid (∀ W2 : World, Kept (fun _ => False) W W2 → Row W2 3 1 (.slice a1 len1 c1) len1 xs))
 (HAP : Hid (∀ (W2 w' : World) (v' : Value), Kept (fun _ => False) W W2 → Appended W2 w' 3 1 (.slice a1 len1 c1) v' len1 1 xs [.int .i64 nx] → w'.cell? ⟨b, 6, none⟩ = some (.slice a1 len1 c1) ∧ w'.cell? ⟨b, 7, none⟩ = some (.int .i64 nx) ∧ w'.frozen? ⟨b, 6, none⟩ = false ∧ Hid (F (w'.setCell ⟨b, 6, none⟩ v'))))
 (hfin : ∀ x200 x201 x202 x203 x204 x205 x206 x207 x208 x209 x210 x211 x212 w'', F w'' → Q .normal ⟨#[.pointer (some ⟨b, 0, none⟩), u1, u2, u3, u4, u5, u6, u7, u8, u9, u10, u11, u12, u13, u14, u15, u16, u17, u18, u19, u20, u21, u22, u23, u24, u25, u26, u27, u28, u29, u30, u31, u32, u33, u34, u35, u36, u37, u38, u39, u40, u41, u42, u43, u44, u45, u46, u47, u48, u49, u50, u51, u52, u53, u54, u55, u56, u57, u58, u59, u60, u61, u62, u63, u64, u65, u66, u67, u68, u69, u70, u71, u72, u73, u74, u75, u76, u77, u78, u79, u80, u81, u82, u83, u84, u85, u86, u87, u88, u89, u90, u91, u92, u93, u94, u95, u96, u97, u98, u99, u100, u101, u102, u103, u104, u105, u106, u107, u108, u109, u110, u111, u112, u113, u114, u115, u116, u117, u118, u119, u120, u121, u122, u123, u124, u125, u126, u127, u128, u129, u130, u131, u132, u133, u134, u135, u136, u137, u138, u139, u140, u141, u142, u143, u144, u145, u146, u147, u148, u149, u150, u151, u152, u153, u154, u155, u156, u157, u158, u159, u160, u161, u162, u163, u164, u165, u166, u167, u168, u169, u170, u171, u172, u173, u174, u175, u176, u177, u178, u179, u180, u181, u182, u183, u184, u185, u186, u187, u188, u189, u190, u191, u192, u193, u194, u195, u196, u197, u198, u199, x200, x201, x202, x203, x204, x205, x206, x207, x208, x209, x210, x211, x212, u213, u214, u215, u216, u217, u218, u219], []⟩ w'') :
 (Code.region 23 #[{ dst := some 200, op := Op.move (Operand.tmp 0), type := 42, pos := "node.go:121", after := #[], guard := none }, { dst := some 201, op := Op.move (Operand.tmp 0), type := 42, pos := "node.go:121", after := #[], guard := none }, { dst := some 202, op := Op.nilCheck (Operand.tmp 201), type := 0, pos := "node.go:121", after := #[{ on := 1, ground := Ground.data }], guard := none }, { dst := some 203, op := Op.fieldAddr 84 (Operand.tmp 202) 6, type := 0, pos := "node.go:121", after := #[{ on := 2, ground := Ground.data }], guard := none }, { dst := some 204, op := Op.load 24 (Operand.tmp 203), type := 24, pos := "node.go:121", after := #[{ on := 3, ground := Ground.data }], guard := none }, { dst := some 205, op := Op.move (Operand.tmp 0), type := 42, pos := "node.go:121", after := #[], guard := none }, { dst := some 206, op := Op.nilCheck (Operand.tmp 205), type := 0, pos := "node.go:121", after := #[{ on := 5, ground := Ground.data }], guard := none }, { dst := some 207, op := Op.fieldAddr 84 (Operand.tmp 206) 7, type := 0, pos := "node.go:121", after := #[{ on := 6, ground := Ground.data }], guard := none }, { dst := some 208, op := Op.load 3 (Operand.tmp 207), type := 3, pos := "node.go:121", after := #[{ on := 7, ground := Ground.data }], guard := none }, { dst := some 209, op := Op.buildSlice 24 1 #[(0, Operand.tmp 208)], type := 24, pos := "node.go:121", after := #[{ on := 8, ground := Ground.data }], guard := none }, { dst := some 210, op := Op.call { callee := Callee.builtin Builtin.append, args := #[Operand.tmp 204, Operand.tmp 209], argTypes := #[24, 24] }, type := 24, pos := "node.go:121", after := #[{ on := 4, ground := Ground.data }, { on := 9, ground := Ground.data }], guard := none }, { dst := some 211, op := Op.nilCheck (Operand.tmp 200), type := 0, pos := "node.go:121", after := #[{ on := 0, ground := Ground.data }, { on := 0, ground := Ground.phase }, { on := 1, ground := Ground.phase }, { on := 2, ground := Ground.phase }, { on := 3, ground := Ground.phase }, { on := 4, ground := Ground.phase }, { on := 5, ground := Ground.phase }, { on := 6, ground := Ground.phase }, { on := 7, ground := Ground.phase }, { on := 8, ground := Ground.phase }, { on := 9, ground := Ground.phase }, { on := 10, ground := Ground.phase }], guard := none }, { dst := some 212, op := Op.fieldAddr 84 (Operand.tmp 211) 6, type := 0, pos := "node.go:121", after := #[{ on := 11, ground := Ground.data }, { on := 0, ground := Ground.phase }, { on := 1, ground := Ground.phase }, { on := 2, ground := Ground.phase }, { on := 3, ground := Ground.phase }, { on := 4, ground := Ground.phase }, { on := 5, ground := Ground.phase }, { on := 6, ground := Ground.phase }, { on := 7, ground := Ground.phase }, { on := 8, ground := Ground.phase }, { on := 9, ground := Ground.phase }, { on := 10, ground := Ground.phase }], guard := none }, { dst := none, op := Op.store 24 (Operand.tmp 212) (Operand.tmp 210), type := 0, pos := "node.go:121", after := #[{ on := 12, ground := Ground.data }, { on := 10, ground := Ground.data }, { on := 10, ground := Ground.chain }, { on := 0, ground := Ground.phase }, { on := 1, ground := Ground.phase }, { on := 2, ground := Ground.phase }, { on := 3, ground := Ground.phase }, { on := 4, ground := Ground.phase }, { on := 5, ground := Ground.phase }, { on := 6, ground := Ground.phase }, { on := 7, ground := Ground.phase }, { on := 8, ground := Ground.phase }, { on := 9, ground := Ground.phase }, { on := 10, ground := Ground.phase }], guard := none }] true).wp Tryz.prog Q ⟨#[.pointer (some ⟨b, 0, none⟩), u1, u2, u3, u4, u5, u6, u7, u8, u9, u10, u11, u12, u13, u14, u15, u16, u17, u18, u19, u20, u21, u22, u23, u24, u25, u26, u27, u28, u29, u30, u31, u32, u33, u34, u35, u36, u37, u38, u39, u40, u41, u42, u43, u44, u45, u46, u47, u48, u49, u50, u51, u52, u53, u54, u55, u56, u57, u58, u59, u60, u61, u62, u63, u64, u65, u66, u67, u68, u69, u70, u71, u72, u73, u74, u75, u76, u77, u78, u79, u80, u81, u82, u83, u84, u85, u86, u87, u88, u89, u90, u91, u92, u93, u94, u95, u96, u97, u98, u99, u100, u101, u102, u103, u104, u105, u106, u107, u108, u109, u110, u111, u112, u113, u114, u115, u116, u117, u118, u119, u120, u121, u122, u123, u124, u125, u126, u127, u128, u129, u130, u131, u132, u133, u134, u135, u136, u137, u138, u139, u140, u141, u142, u143, u144, u145, u146, u147, u148, u149, u150, u151, u152, u153, u154, u155, u156, u157, u158, u159, u160, u161, u162, u163, u164, u165, u166, u167, u168, u169, u170, u171, u172, u173, u174, u175, u176, u177, u178, u179, u180, u181, u182, u183, u184, u185, u186, u187, u188, u189, u190, u191, u192, u193, u194, u195, u196, u197, u198, u199, u200, u201, u202, u203, u204, u205, u206, u207, u208, u209, u210, u211, u212, u213, u214, u215, u216, u217, u218, u219], []⟩ W := by
 refine startC 13 (fun w' => w'.cell? ⟨b, 6, none⟩ = some (.slice a1 len1 c1) ∧ w'.cell? ⟨b, 7, none⟩ = some (.int .i64 nx)) (by kernel_rfl) ?_
 have hS : (fun w' => w'.cell? ⟨b, 6, none⟩ = some (.slice a1 len1 c1) ∧ w'.cell? ⟨b, 7, none⟩ = some (.int .i64 nx)) W.drew := ⟨n6, m7⟩
 refine takeC (i := 0) (v := ?_) rfl (by kernel_rfl) (by kernel_rfl) (by kernel_rfl) (by kernel_rfl) (fun x a w h => hP x a _ _ w h) hS (Or.inl ⟨by rfl, ?_⟩) ?_
 rotate_left
 · (intro w hSw; (try dsimp only at hSw); go_simp; first | done | with_reducible rfl)
 simp only [Act.put]
 refine takeC (i := 1) (v := ?_) rfl (by kernel_rfl) (by kernel_rfl) (by kernel_rfl) (by kernel_rfl) (fun x a w h => hP x a _ _ w h) hS (Or.inl ⟨by rfl, ?_⟩) ?_
 rotate_left
 · (intro w hSw; (try dsimp only at hSw); go_simp; first | done | with_reducible rfl)
 simp only [Act.put]
 refine takeC (i := 2) (v := ?_) rfl (by kernel_rfl) (by kernel_rfl) (by kernel_rfl) (by kernel_rfl) (fun x a w h => hP x a _ _ w h) hS (Or.inl ⟨by rfl, ?_⟩) ?_
 rotate_left
 · (intro w hSw; (try dsimp only at hSw); go_simp; first | done | with_reducible rfl)
 simp only [Act.put]
 refine takeC (i := 3) (v := ?_) rfl (by kernel_rfl) (by kernel_rfl) (by kernel_rfl) (by kernel_rfl) (fun x a w h => hP x a _ _ w h) hS (Or.inl ⟨by rfl, ?_⟩) ?_
 rotate_left
 · (intro w hSw; (try dsimp only at hSw); go_simp; first | done | with_reducible rfl)
 simp only [Act.put]
 refine takeC (i := 4) (v := ?_) rfl (by kernel_rfl) (by kernel_rfl) (by kernel_rfl) (by kernel_rfl) (fun x a w h => hP x a _ _ w h) hS (Or.inl ⟨by rfl, ?_⟩) ?_
 rotate_left
 · (intro w hSw; (try dsimp only at hSw); go_simp; first | done | with_reducible rfl)
 simp only [Act.put]
 refine takeC (i := 5) (v := ?_) rfl (by kernel_rfl) (by kernel_rfl) (by kernel_rfl) (by kernel_rfl) (fun x a w h => hP x a _ _ w h) hS (Or.inl ⟨by rfl, ?_⟩) ?_
 rotate_left
 · (intro w hSw; (try dsimp only at hSw); go_simp; first | done | with_reducible rfl)
 simp only [Act.put]
 refine takeC (i := 6) (v := ?_) rfl (by kernel_rfl) (by kernel_rfl) (by kernel_rfl) (by kernel_rfl) (fun x a w h => hP x a _ _ w h) hS (Or.inl ⟨by rfl, ?_⟩) ?_
 rotate_left
 · (intro w hSw; (try dsimp only at hSw); go_simp; first | done | with_reducible rfl)
 simp only [Act.put]
 refine takeC (i := 7) (v := ?_) rfl (by kernel_rfl) (by kernel_rfl) (by kernel_rfl) (by kernel_rfl) (fun x a w h => hP x a _ _ w h) hS (Or.inl ⟨by rfl, ?_⟩) ?_
 rotate_left
 · (intro w hSw; (try dsimp only at hSw); go_simp; first | done | with_reducible rfl)
 simp only [Act.put]
 refine takeC (i := 8) (v := ?_) rfl (by kernel_rfl) (by kernel_rfl) (by kernel_rfl) (by kernel_rfl) (fun x a w h => hP x a _ _ w h) hS (Or.inl ⟨by rfl, ?_⟩) ?_
 rotate_left
 · (intro w hSw; (try dsimp only at hSw); go_simp; first | done | with_reducible rfl)
 simp only [Act.put]
 refine stepC (j := 9) (by kernel_rfl) (by rfl) rfl (by decide) (fun K hK => ?_)
 go_simp
 refine hK.out _ _ ⟨hold_al (w := W.drew) n6, hold_al (w := W.drew) m7⟩ ?_
 clear hK K hS
 refine stepC (j := 10) (by kernel_rfl) (by rfl) rfl (by decide) (fun K hK => ?_)
 refine wp_append_mine _ (.tmp 204) (.tmp 209) 24 rfl 3 i0 (.int .i64 0) 1 8 Tryz.underlying24 HI0.out.1 HI0.out.2.1 HI0.out.2.2.1 HI0.out.2.2.2 rfl (Nat.succ_pos 0) (.slice a1 len1 c1) len1 xs rfl (HROW.out _ ((Kept.refl _ _).drew.allocNew _)) ⟨W.heap.size, 0, none⟩ 1 1 [.int .i64 nx] rfl rfl (fun j u hj => news_one W.drew _ _ j u hj) (oneCell_int nx) k1 k2 (fun v' w' hA => ?_)
 obtain ⟨p2, l0, p3, p4⟩ := HAP.out _ _ _ ((Kept.refl _ _).drew.allocNew _) hA
 obtain ⟨ao', cap', hv', _⟩ := hA.row.form
 clear hA
 subst hv'
 have hS : (fun w' => w'.cell? ⟨b, 6, none⟩ = some (.slice a1 len1 c1) ∧ w'.cell? ⟨b, 7, none⟩ = some (.int .i64 nx)) w' := ⟨p2, l0⟩
 refine hK.out _ _ hS ?_
 clear hK K
 simp only [Act.put]
 refine stepC (j := 11) (by kernel_rfl) (by rfl) rfl (by decide) (fun K hK => ?_)
 go_simp
 refine hK.out _ _ hS ?_
 clear hK K
 refine stepC (j := 12) (by kernel_rfl) (by rfl) rfl (by decide) (fun K hK => ?_)
 go_simp
 refine hK.out _ _ hS ?_
 clear hK K
 refine lastC (by kernel_rfl) (by rfl) rfl (by kernel_rfl) (fun K hK => ?_)
 go_simp
 refine hK.out _ _ ?_
 exact hfin _ _ _ _ _ _ _ _ _ _ _ _ _ _ p4.out
end Go.Proofs.YtpfcacedpkaihaaGreat
