/-
  Lemma texts, one behind the other: PKCode, PKA1, PKA2, PKA3, PKA4, PKA5, PKA6. No statement of the seat is proved here.
-/
import Derived.Deep.CutBlock
import Derived.Deep.DeepCutAuto
import Derived.Test.YtbhjdcoehgajcaaGH
import Derived.WalkKit
import Derived.ProofKit
import Derived.OpenShut
import Derived.ShutString
namespace Go.Proofs.Ytbhjdcoehgajcaa.L.P
open Go.RowKit Go.Maps

def isSkip : Code → Bool
  | .skip => true
  | _ => false
def isTmp (k : Nat) : Operand → Bool
  | .tmp j => j == k
  | _ => false
/-- The first way of the test on slot k. -/
def thenOf (k : Nat) : Code → Option Code
  | .cond o a b => match isTmp k o && !isSkip a with
    | true => some a
    | false => match thenOf k a with
      | some c => some c
      | none => thenOf k b
  | .seq a b => match thenOf k a with
    | some c => some c
    | none => thenOf k b
  | .block _ c => thenOf k c
  | .loop c => thenOf k c
  | .scope c => thenOf k c
  | _ => none
/-- Block k. -/
def blockOf (k : Nat) : Code → Option Code
  | .cond _ a b => match blockOf k a with
    | some c => some c
    | none => blockOf k b
  | .seq a b => match blockOf k a with
    | some c => some c
    | none => blockOf k b
  | .block j c => match j == k with
    | true => some (.block j c)
    | false => blockOf k c
  | .loop c => blockOf k c
  | .scope c => blockOf k c
  | _ => none

noncomputable def codeA : Code := ((Try.f3.body.bind (thenOf 81)).getD .skip)
noncomputable def codeB : Code := ((Try.f3.body.bind (thenOf 154)).getD .skip)
noncomputable def codeC : Code := ((Try.f3.body.bind (thenOf 214)).getD .skip)
noncomputable def codeS : Code := ((Try.f3.body.bind (blockOf 2)).getD .skip)


/-- The number that a value is. -/
def numV : Value → Nat | .int _ q => q.toNat | _ => 0
/-- What a step leaves. -/
def MetK (w : World) (q d : Nat) (fr : Int) (va vb : Value) (sA sB m : Nat) (wx : World) : Prop :=
  ∃ x2 y2 : List Int, Hid (x2.length = sA ∧ y2.length = sB) ∧ Hid (Kp w wx [] q d fr va vb x2 y2 x2 y2 (fun _ => True) m)

end Go.Proofs.Ytbhjdcoehgajcaa.L.P

namespace Go.Proofs.Ytbhjdcoehgajcaa.L.P
open Go.RowKit Go.Maps
set_option linter.unusedVariables false

set_option maxRecDepth 1000000 in
set_option maxHeartbeats 8000000 in
theorem caseA1 (c0 c1 c2 c3 c4 c5 c6 c7 c8 c9 c14 c19 c20 c21 c22 c23 c24 c25 c26 c27 c28 c29 c30 c31 c32 c33 c34 c35 c36 c37 c38 c39 c40 c41 c42 c43 c44 c45 c46 c47 c48 c49 c50 c51 c52 c53 c54 c55 c56 c57 c58 c59 c60 c61 c62 c63 c64 c65 c66 c67 c68 c69 c70 c71 c72 c73 c74 c75 c76 c77 c78 c79 c81 c82 c83 c84 c85 c86 c87 c88 c89 c90 c91 c92 c93 c94 c95 c96 c97 c98 c99 c100 c101 c102 c103 c104 c105 c106 c107 c108 c109 c110 c111 c112 c113 c114 c115 c116 c117 c118 c119 c120 c121 c122 c123 c124 c125 c126 c127 c128 c129 c130 c131 c132 c133 c134 c135 c136 c137 c138 c139 c140 c141 c142 c143 c144 c145 c146 c147 c148 c149 c150 c151 c152 c153 c154 c155 c156 c157 c158 c159 c160 c161 c162 c163 c164 c165 c166 c167 c168 c169 c170 c171 c172 c173 c174 c175 c176 c177 c178 c179 c180 c181 c182 c183 c184 c185 c186 c187 c188 c189 c190 c191 c192 c193 c194 c195 c196 c197 c198 c199 c200 c201 c202 c203 c204 c205 c206 c207 c208 c209 c210 c211 c212 c213 c214 c215 c216 c217 c218 c219 c220 c221 c222 c223 c224 c225 c226 c227 c228 c229 c230 c231 c232 c233 c234 c235 c236 c237 c238 c239 c240 c241 c242 c243 c244 c245 c246 c247 c248 c249 c250 c251 c252 c253 c254 c255 c256 c257 c258 c259 c260 c261 c262 c263 c264 c265 c266 c267 c268 c269 c270 c271 : Value) {w wc : World} {bx q d : Nat} {fr : Int} {va vb : Value} {x y : List Int} {m sA sB : Nat} {sk : Int} {o : Bool} {oa sda : Option Addr} {oc L dl sdc sdn at_ n : Nat} 
    (HXY : Hid (x.length = sA ∧ y.length = sB)) (K1 : Hid (Kp w wc [bx] q d fr va vb x y x y (fun _ => True) m))
    (HBX : Hid (wc.heap[bx]? = some (.cells #[.int .i64 sk, .int .i64 (at_ : Int), .int .i64 (n : Int), .bool o, .slice sda sdn sdc] 32)))
    (HOWN : Hid (.slice oa L oc = sel o va vb)) (HL : Hid (L = (sel o x y).length)) (hoc : L ≤ oc) (hL3 : L ≤ 300) (hfr : fr ≤ 10) (hm : m ≤ 100000)
    (hm3 : (at_ : Int) + (n : Int) ≤ (L : Int)) (hoc2 : ¬ oc = at_)
    (Q0 : Exit → Act → World → Prop) (J K' : Act → World → Prop) (hJ : ∀ a' w', (∃ u8 u19 u20 u21 u22 u23 u24 u25 u26 u54 u55 u56 u57 u58 u59 u60 u61 u62 u63 u64 u65 u66 u67 u68 u69 u70 u71 u72 u73 u74 u75 u76 u77 u78 u79 u81 u82 u83 u84 u85 u86 u87 u88 u89 u90 u91 u92 u93 u94 u95 u96 u97 u98 u99 u100 u101 u102 u103 u104 u105 u106 u107 u108 u109 u110 u111 u112 u113 u114 u115 u116 u117 u118 u119 u120 u121 u122 u123 u124 u125 u126 u127 u128 u129 u130 u131 u132 u133 u134 u135 u136 u137 u138 u139 u140 u141 u142 u143 u144 u145 u146 u147 u148 u149 u150 u151 u152 u153 u154 u155 u156 u157 u158 u159 u160 u161 u162 u163 u164 u165 u166 u167 u168 u169 u170 u171 u172 u173 u174 u175 u176 u177 u178 u179 u180 u181 u182 u183 u184 u185 u186 u187 u188 u189 u190 u191 u192 u193 u194 u195 u196 u197 u198 u199 u200 u201 u202 u203 u204 u205 u206 u207 u208 u209 u210 u211 u212 u213 u214 u215 u216 u217 u218 u219 u220 u221 u222 u223 u224 u225 u226 u227 u228 u229 u230 u231 u232 u233 u234 u235 u236 u237 u238 u239 u240 u241 u242 u243 u244 u245 u246 u247 u248 u249 u250 u251 u252 u253 : Value, MetK w q d fr va vb sA sB (m + 900) w' ∧ a' = ⟨#[c0, c1, c2, c3, c4, c5, c6, c7, u8, c9, .pointer (some ⟨d, 0, none⟩), .pointer (some ⟨q, 0, none⟩), va, vb, c14, .pointer (some ⟨bx, 0, none⟩), .string (nmO o), .slice oa L oc, .slice sda dl sdc, u19, u20, u21, u22, u23, u24, u25, u26, c27, c28, c29, c30, c31, c32, c33, c34, c35, c36, c37, c38, c39, c40, c41, c42, c43, c44, c45, c46, c47, c48, c49, c50, c51, c52, c53, u54, u55, u56, u57, u58, u59, u60, u61, u62, u63, u64, u65, u66, u67, u68, u69, u70, u71, u72, u73, u74, u75, u76, u77, u78, u79, .int .i64 sk, u81, u82, u83, u84, u85, u86, u87, u88, u89, u90, u91, u92, u93, u94, u95, u96, u97, u98, u99, u100, u101, u102, u103, u104, u105, u106, u107, u108, u109, u110, u111, u112, u113, u114, u115, u116, u117, u118, u119, u120, u121, u122, u123, u124, u125, u126, u127, u128, u129, u130, u131, u132, u133, u134, u135, u136, u137, u138, u139, u140, u141, u142, u143, u144, u145, u146, u147, u148, u149, u150, u151, u152, u153, u154, u155, u156, u157, u158, u159, u160, u161, u162, u163, u164, u165, u166, u167, u168, u169, u170, u171, u172, u173, u174, u175, u176, u177, u178, u179, u180, u181, u182, u183, u184, u185, u186, u187, u188, u189, u190, u191, u192, u193, u194, u195, u196, u197, u198, u199, u200, u201, u202, u203, u204, u205, u206, u207, u208, u209, u210, u211, u212, u213, u214, u215, u216, u217, u218, u219, u220, u221, u222, u223, u224, u225, u226, u227, u228, u229, u230, u231, u232, u233, u234, u235, u236, u237, u238, u239, u240, u241, u242, u243, u244, u245, u246, u247, u248, u249, u250, u251, u252, u253, c254, c255, c256, c257, c258, c259, c260, c261, c262, c263, c264, c265, c266, c267, c268, c269, c270, c271], []⟩) → J a' w') (hK : ∀ a' w', Met J a' w' → K' a' w') :
    Code.wp Try.prog codeA (Exit.then K' Q0) ⟨#[c0, c1, c2, c3, c4, c5, c6, c7, c8, c9, .pointer (some ⟨d, 0, none⟩), .pointer (some ⟨q, 0, none⟩), va, vb, c14, .pointer (some ⟨bx, 0, none⟩), .string (nmO o), .slice oa L oc, .slice sda dl sdc, c19, c20, c21, c22, c23, c24, c25, c26, c27, c28, c29, c30, c31, c32, c33, c34, c35, c36, c37, c38, c39, c40, c41, c42, c43, c44, c45, c46, c47, c48, c49, c50, c51, c52, c53, c54, c55, c56, c57, c58, c59, c60, c61, c62, c63, c64, c65, c66, c67, c68, c69, c70, c71, c72, c73, c74, c75, c76, c77, c78, c79, .int .i64 sk, c81, c82, c83, c84, c85, c86, c87, c88, c89, c90, c91, c92, c93, c94, c95, c96, c97, c98, c99, c100, c101, c102, c103, c104, c105, c106, c107, c108, c109, c110, c111, c112, c113, c114, c115, c116, c117, c118, c119, c120, c121, c122, c123, c124, c125, c126, c127, c128, c129, c130, c131, c132, c133, c134, c135, c136, c137, c138, c139, c140, c141, c142, c143, c144, c145, c146, c147, c148, c149, c150, c151, c152, c153, c154, c155, c156, c157, c158, c159, c160, c161, c162, c163, c164, c165, c166, c167, c168, c169, c170, c171, c172, c173, c174, c175, c176, c177, c178, c179, c180, c181, c182, c183, c184, c185, c186, c187, c188, c189, c190, c191, c192, c193, c194, c195, c196, c197, c198, c199, c200, c201, c202, c203, c204, c205, c206, c207, c208, c209, c210, c211, c212, c213, c214, c215, c216, c217, c218, c219, c220, c221, c222, c223, c224, c225, c226, c227, c228, c229, c230, c231, c232, c233, c234, c235, c236, c237, c238, c239, c240, c241, c242, c243, c244, c245, c246, c247, c248, c249, c250, c251, c252, c253, c254, c255, c256, c257, c258, c259, c260, c261, c262, c263, c264, c265, c266, c267, c268, c269, c270, c271], []⟩ wc := by
  conv => arg 2; whnf
  have c1 : wc.cell? ⟨bx, 1, none⟩ = some (.int .i64 (at_ : Int)) := cell_of_heap HBX.out 1
  have c2 : wc.cell? ⟨bx, 2, none⟩ = some (.int .i64 (n : Int)) := cell_of_heap HBX.out 2
  have hm4 : (at_ : Int) ≤ (L : Int) := by omega
  have hw2 : IntKind.i64.wrap ((L : Int) - (at_ : Int)) = (L : Int) - (at_ : Int) := i64_small _ (by omega) (by omega)
  have hm5 : (n : Int) ≤ (L : Int) - (at_ : Int) := by omega
  have hw3 : IntKind.i64.wrap ((at_ : Int) + (n : Int)) = (at_ : Int) + (n : Int) := i64_small _ (by omega) (by omega)
  have hm6 : (at_ : Int) + (n : Int) ≤ (oc : Int) := by omega
  go_wp2_with fail
  refine (K1.out.read o at_ n (by have := HL.out; omega) (by omega) (by omega)).mono ?_
  rintro e w5 ⟨ca, cc, rfl, ic, k5, b5⟩
  have hb5 := b5.heap (b := bx) (by simp) HBX.out
  have e1 : w5.cell? ⟨bx, 1, none⟩ = some (.int .i64 (at_ : Int)) := cell_of_heap hb5 1
  have e2 : w5.cell? ⟨bx, 2, none⟩ = some (.int .i64 (n : Int)) := cell_of_heap hb5 2
  have r5 : RowB w5 (.slice oa L oc) (sel o x y) := HOWN.out ▸ k5.rowO o
  have K5 := hide (And.intro ic (And.intro k5 r5))
  obtain ⟨og, hog⟩ : ∃ og, oa = some ⟨og, 0, none⟩ := by
    rcases r5.form with ⟨e, _⟩ | ⟨g', cap', e, _⟩
    · simp only [Value.slice.injEq] at e; omega
    · simp only [Value.slice.injEq] at e; exact ⟨g', e.1⟩
  subst hog
  have hoc3 : ¬ oc - at_ = 0 := by omega
  have X5 : ∀ mm, (convert 28 9 (.slice ca n cc)).run Try.prog (w5.drewN mm) = .ok (.string (strOfNums (((sel o x y).drop at_).take n))) (w5.drewN mm) := fun mm => conv_isB (ic.below (below_drewN (Below.refl _ _) mm))
  have Y5 : ∀ mm, (convert 28 9 (.slice (some ⟨og, at_, none⟩) n (oc - at_))).run Try.prog (w5.drewN mm) = .ok (.string (strOfNums (((sel o x y).drop at_).take n))) (w5.drewN mm) := fun mm => conv_isB (by have := (r5.isB.below (below_drewN (Below.refl _ _) mm)).mid at_ n (by have := HL.out; omega); simpa using this)
  generalize strOfNums (((sel o x y).drop at_).take n) = str at X5 Y5
  clear ic k5 b5 hb5 r5
  dsimp only
  go_wp2
  go_quiet (fail)
  go_wp2
  go_meet
  case rel => exact ⟨x, y, HXY, (K5.out.2.1.unbox.more (by omega)).drewN _⟩

end Go.Proofs.Ytbhjdcoehgajcaa.L.P

namespace Go.Proofs.Ytbhjdcoehgajcaa.L.P
open Go.RowKit Go.Maps
set_option linter.unusedVariables false

set_option maxRecDepth 1000000 in
set_option maxHeartbeats 8000000 in
theorem caseA2 (c0 c1 c2 c3 c4 c5 c6 c7 c8 c9 c14 c19 c20 c21 c22 c23 c24 c25 c26 c27 c28 c29 c30 c31 c32 c33 c34 c35 c36 c37 c38 c39 c40 c41 c42 c43 c44 c45 c46 c47 c48 c49 c50 c51 c52 c53 c54 c55 c56 c57 c58 c59 c60 c61 c62 c63 c64 c65 c66 c67 c68 c69 c70 c71 c72 c73 c74 c75 c76 c77 c78 c79 c81 c82 c83 c84 c85 c86 c87 c88 c89 c90 c91 c92 c93 c94 c95 c96 c97 c98 c99 c100 c101 c102 c103 c104 c105 c106 c107 c108 c109 c110 c111 c112 c113 c114 c115 c116 c117 c118 c119 c120 c121 c122 c123 c124 c125 c126 c127 c128 c129 c130 c131 c132 c133 c134 c135 c136 c137 c138 c139 c140 c141 c142 c143 c144 c145 c146 c147 c148 c149 c150 c151 c152 c153 c154 c155 c156 c157 c158 c159 c160 c161 c162 c163 c164 c165 c166 c167 c168 c169 c170 c171 c172 c173 c174 c175 c176 c177 c178 c179 c180 c181 c182 c183 c184 c185 c186 c187 c188 c189 c190 c191 c192 c193 c194 c195 c196 c197 c198 c199 c200 c201 c202 c203 c204 c205 c206 c207 c208 c209 c210 c211 c212 c213 c214 c215 c216 c217 c218 c219 c220 c221 c222 c223 c224 c225 c226 c227 c228 c229 c230 c231 c232 c233 c234 c235 c236 c237 c238 c239 c240 c241 c242 c243 c244 c245 c246 c247 c248 c249 c250 c251 c252 c253 c254 c255 c256 c257 c258 c259 c260 c261 c262 c263 c264 c265 c266 c267 c268 c269 c270 c271 : Value) {w wc : World} {bx q d : Nat} {fr : Int} {va vb : Value} {x y : List Int} {m sA sB : Nat} {sk : Int} {o : Bool} {oa sda : Option Addr} {oc L dl sdc sdn at_ n : Nat} 
    (HXY : Hid (x.length = sA ∧ y.length = sB)) (K1 : Hid (Kp w wc [bx] q d fr va vb x y x y (fun _ => True) m))
    (HBX : Hid (wc.heap[bx]? = some (.cells #[.int .i64 sk, .int .i64 (at_ : Int), .int .i64 (n : Int), .bool o, .slice sda sdn sdc] 32)))
    (HOWN : Hid (.slice oa L oc = sel o va vb)) (HL : Hid (L = (sel o x y).length)) (hoc : L ≤ oc) (hL3 : L ≤ 300) (hfr : fr ≤ 10) (hm : m ≤ 100000)
    (hm3 : (at_ : Int) + (n : Int) ≤ (L : Int)) (hoc2 : oc = at_)
    (Q0 : Exit → Act → World → Prop) (J K' : Act → World → Prop) (hJ : ∀ a' w', (∃ u8 u19 u20 u21 u22 u23 u24 u25 u26 u54 u55 u56 u57 u58 u59 u60 u61 u62 u63 u64 u65 u66 u67 u68 u69 u70 u71 u72 u73 u74 u75 u76 u77 u78 u79 u81 u82 u83 u84 u85 u86 u87 u88 u89 u90 u91 u92 u93 u94 u95 u96 u97 u98 u99 u100 u101 u102 u103 u104 u105 u106 u107 u108 u109 u110 u111 u112 u113 u114 u115 u116 u117 u118 u119 u120 u121 u122 u123 u124 u125 u126 u127 u128 u129 u130 u131 u132 u133 u134 u135 u136 u137 u138 u139 u140 u141 u142 u143 u144 u145 u146 u147 u148 u149 u150 u151 u152 u153 u154 u155 u156 u157 u158 u159 u160 u161 u162 u163 u164 u165 u166 u167 u168 u169 u170 u171 u172 u173 u174 u175 u176 u177 u178 u179 u180 u181 u182 u183 u184 u185 u186 u187 u188 u189 u190 u191 u192 u193 u194 u195 u196 u197 u198 u199 u200 u201 u202 u203 u204 u205 u206 u207 u208 u209 u210 u211 u212 u213 u214 u215 u216 u217 u218 u219 u220 u221 u222 u223 u224 u225 u226 u227 u228 u229 u230 u231 u232 u233 u234 u235 u236 u237 u238 u239 u240 u241 u242 u243 u244 u245 u246 u247 u248 u249 u250 u251 u252 u253 : Value, MetK w q d fr va vb sA sB (m + 900) w' ∧ a' = ⟨#[c0, c1, c2, c3, c4, c5, c6, c7, u8, c9, .pointer (some ⟨d, 0, none⟩), .pointer (some ⟨q, 0, none⟩), va, vb, c14, .pointer (some ⟨bx, 0, none⟩), .string (nmO o), .slice oa L oc, .slice sda dl sdc, u19, u20, u21, u22, u23, u24, u25, u26, c27, c28, c29, c30, c31, c32, c33, c34, c35, c36, c37, c38, c39, c40, c41, c42, c43, c44, c45, c46, c47, c48, c49, c50, c51, c52, c53, u54, u55, u56, u57, u58, u59, u60, u61, u62, u63, u64, u65, u66, u67, u68, u69, u70, u71, u72, u73, u74, u75, u76, u77, u78, u79, .int .i64 sk, u81, u82, u83, u84, u85, u86, u87, u88, u89, u90, u91, u92, u93, u94, u95, u96, u97, u98, u99, u100, u101, u102, u103, u104, u105, u106, u107, u108, u109, u110, u111, u112, u113, u114, u115, u116, u117, u118, u119, u120, u121, u122, u123, u124, u125, u126, u127, u128, u129, u130, u131, u132, u133, u134, u135, u136, u137, u138, u139, u140, u141, u142, u143, u144, u145, u146, u147, u148, u149, u150, u151, u152, u153, u154, u155, u156, u157, u158, u159, u160, u161, u162, u163, u164, u165, u166, u167, u168, u169, u170, u171, u172, u173, u174, u175, u176, u177, u178, u179, u180, u181, u182, u183, u184, u185, u186, u187, u188, u189, u190, u191, u192, u193, u194, u195, u196, u197, u198, u199, u200, u201, u202, u203, u204, u205, u206, u207, u208, u209, u210, u211, u212, u213, u214, u215, u216, u217, u218, u219, u220, u221, u222, u223, u224, u225, u226, u227, u228, u229, u230, u231, u232, u233, u234, u235, u236, u237, u238, u239, u240, u241, u242, u243, u244, u245, u246, u247, u248, u249, u250, u251, u252, u253, c254, c255, c256, c257, c258, c259, c260, c261, c262, c263, c264, c265, c266, c267, c268, c269, c270, c271], []⟩) → J a' w') (hK : ∀ a' w', Met J a' w' → K' a' w') :
    Code.wp Try.prog codeA (Exit.then K' Q0) ⟨#[c0, c1, c2, c3, c4, c5, c6, c7, c8, c9, .pointer (some ⟨d, 0, none⟩), .pointer (some ⟨q, 0, none⟩), va, vb, c14, .pointer (some ⟨bx, 0, none⟩), .string (nmO o), .slice oa L oc, .slice sda dl sdc, c19, c20, c21, c22, c23, c24, c25, c26, c27, c28, c29, c30, c31, c32, c33, c34, c35, c36, c37, c38, c39, c40, c41, c42, c43, c44, c45, c46, c47, c48, c49, c50, c51, c52, c53, c54, c55, c56, c57, c58, c59, c60, c61, c62, c63, c64, c65, c66, c67, c68, c69, c70, c71, c72, c73, c74, c75, c76, c77, c78, c79, .int .i64 sk, c81, c82, c83, c84, c85, c86, c87, c88, c89, c90, c91, c92, c93, c94, c95, c96, c97, c98, c99, c100, c101, c102, c103, c104, c105, c106, c107, c108, c109, c110, c111, c112, c113, c114, c115, c116, c117, c118, c119, c120, c121, c122, c123, c124, c125, c126, c127, c128, c129, c130, c131, c132, c133, c134, c135, c136, c137, c138, c139, c140, c141, c142, c143, c144, c145, c146, c147, c148, c149, c150, c151, c152, c153, c154, c155, c156, c157, c158, c159, c160, c161, c162, c163, c164, c165, c166, c167, c168, c169, c170, c171, c172, c173, c174, c175, c176, c177, c178, c179, c180, c181, c182, c183, c184, c185, c186, c187, c188, c189, c190, c191, c192, c193, c194, c195, c196, c197, c198, c199, c200, c201, c202, c203, c204, c205, c206, c207, c208, c209, c210, c211, c212, c213, c214, c215, c216, c217, c218, c219, c220, c221, c222, c223, c224, c225, c226, c227, c228, c229, c230, c231, c232, c233, c234, c235, c236, c237, c238, c239, c240, c241, c242, c243, c244, c245, c246, c247, c248, c249, c250, c251, c252, c253, c254, c255, c256, c257, c258, c259, c260, c261, c262, c263, c264, c265, c266, c267, c268, c269, c270, c271], []⟩ wc := by
  conv => arg 2; whnf
  have hn0 : n = 0 := by omega
  subst hn0
  have hoc4 := hoc2.symm
  subst hoc4
  have q1 : wc.cell? ⟨bx, 1, none⟩ = some (.int .i64 (at_ : Int)) := cell_of_heap HBX.out 1
  have q2 : wc.cell? ⟨bx, 2, none⟩ = some (.int .i64 ((0 : Nat) : Int)) := cell_of_heap HBX.out 2
  have hm4 : (at_ : Int) ≤ (L : Int) := by omega
  have hw2 : IntKind.i64.wrap ((L : Int) - (at_ : Int)) = (L : Int) - (at_ : Int) := i64_small _ (by omega) (by omega)
  have hm5 : (0 : Int) ≤ (L : Int) - (at_ : Int) := by omega
  have hw3 : IntKind.i64.wrap (at_ : Int) = (at_ : Int) := i64_small _ (by omega) (by omega)
  go_wp2_with fail
  refine (K1.out.read o at_ 0 (by have := HL.out; omega) (by omega) (by omega)).mono ?_
  rintro e w5 ⟨ca, cc, rfl, ic, k5, b5⟩
  have hb5 := b5.heap (b := bx) (by simp) HBX.out
  have e1 : w5.cell? ⟨bx, 1, none⟩ = some (.int .i64 (at_ : Int)) := cell_of_heap hb5 1
  have e2 : w5.cell? ⟨bx, 2, none⟩ = some (.int .i64 ((0 : Nat) : Int)) := cell_of_heap hb5 2
  have K5 := hide (And.intro ic k5)
  have X5 : ∀ mm, (convert 28 9 (.slice ca 0 cc)).run Try.prog (w5.drewN mm) = .ok (.string (strOfNums [])) (w5.drewN mm) := fun mm => conv_isB (by have := ic.below (below_drewN (Below.refl _ _) mm); simpa using this)
  have Y5 : ∀ mm, (convert 28 9 (.slice oa 0 0)).run Try.prog (w5.drewN mm) = .ok (.string (strOfNums [])) (w5.drewN mm) := fun mm => conv_isB ⟨oa, 0, rfl, Nat.le_refl _, fun _ => ⟨rfl, rfl⟩, by simp, by simp⟩
  generalize strOfNums [] = str at X5 Y5
  clear ic k5 b5 hb5
  dsimp only
  go_wp2
  go_quiet (fail)
  go_wp2
  go_meet
  case rel => exact ⟨x, y, HXY, (K5.out.2.unbox.more (by omega)).drewN _⟩

end Go.Proofs.Ytbhjdcoehgajcaa.L.P

namespace Go.Proofs.Ytbhjdcoehgajcaa.L.P
open Go.RowKit Go.Maps
set_option linter.unusedVariables false

set_option maxRecDepth 1000000 in
set_option maxHeartbeats 8000000 in
theorem caseA3 (c0 c1 c2 c3 c4 c5 c6 c7 c8 c9 c14 c19 c20 c21 c22 c23 c24 c25 c26 c27 c28 c29 c30 c31 c32 c33 c34 c35 c36 c37 c38 c39 c40 c41 c42 c43 c44 c45 c46 c47 c48 c49 c50 c51 c52 c53 c54 c55 c56 c57 c58 c59 c60 c61 c62 c63 c64 c65 c66 c67 c68 c69 c70 c71 c72 c73 c74 c75 c76 c77 c78 c79 c81 c82 c83 c84 c85 c86 c87 c88 c89 c90 c91 c92 c93 c94 c95 c96 c97 c98 c99 c100 c101 c102 c103 c104 c105 c106 c107 c108 c109 c110 c111 c112 c113 c114 c115 c116 c117 c118 c119 c120 c121 c122 c123 c124 c125 c126 c127 c128 c129 c130 c131 c132 c133 c134 c135 c136 c137 c138 c139 c140 c141 c142 c143 c144 c145 c146 c147 c148 c149 c150 c151 c152 c153 c154 c155 c156 c157 c158 c159 c160 c161 c162 c163 c164 c165 c166 c167 c168 c169 c170 c171 c172 c173 c174 c175 c176 c177 c178 c179 c180 c181 c182 c183 c184 c185 c186 c187 c188 c189 c190 c191 c192 c193 c194 c195 c196 c197 c198 c199 c200 c201 c202 c203 c204 c205 c206 c207 c208 c209 c210 c211 c212 c213 c214 c215 c216 c217 c218 c219 c220 c221 c222 c223 c224 c225 c226 c227 c228 c229 c230 c231 c232 c233 c234 c235 c236 c237 c238 c239 c240 c241 c242 c243 c244 c245 c246 c247 c248 c249 c250 c251 c252 c253 c254 c255 c256 c257 c258 c259 c260 c261 c262 c263 c264 c265 c266 c267 c268 c269 c270 c271 : Value) {w wc : World} {bx q d : Nat} {fr : Int} {va vb : Value} {x y : List Int} {m sA sB : Nat} {sk sat sn : Int} {o : Bool} {oa sda : Option Addr} {oc L dl sdc sdn : Nat} 
    (HXY : Hid (x.length = sA ∧ y.length = sB)) (K1 : Hid (Kp w wc [bx] q d fr va vb x y x y (fun _ => True) m))
    (HBX : Hid (wc.heap[bx]? = some (.cells #[.int .i64 sk, .int .i64 sat, .int .i64 sn, .bool o, .slice sda sdn sdc] 32)))
    (HOWN : Hid (.slice oa L oc = sel o va vb)) (HL : Hid (L = (sel o x y).length)) (hoc : L ≤ oc) (hL3 : L ≤ 300) (hfr : fr ≤ 10) (hm : m ≤ 100000)
    (h1 : sat < 0) (h2 : sat ≤ 9223372036854775807)
    (Q0 : Exit → Act → World → Prop) (J K' : Act → World → Prop) (hJ : ∀ a' w', (∃ u8 u19 u20 u21 u22 u23 u24 u25 u26 u54 u55 u56 u57 u58 u59 u60 u61 u62 u63 u64 u65 u66 u67 u68 u69 u70 u71 u72 u73 u74 u75 u76 u77 u78 u79 u81 u82 u83 u84 u85 u86 u87 u88 u89 u90 u91 u92 u93 u94 u95 u96 u97 u98 u99 u100 u101 u102 u103 u104 u105 u106 u107 u108 u109 u110 u111 u112 u113 u114 u115 u116 u117 u118 u119 u120 u121 u122 u123 u124 u125 u126 u127 u128 u129 u130 u131 u132 u133 u134 u135 u136 u137 u138 u139 u140 u141 u142 u143 u144 u145 u146 u147 u148 u149 u150 u151 u152 u153 u154 u155 u156 u157 u158 u159 u160 u161 u162 u163 u164 u165 u166 u167 u168 u169 u170 u171 u172 u173 u174 u175 u176 u177 u178 u179 u180 u181 u182 u183 u184 u185 u186 u187 u188 u189 u190 u191 u192 u193 u194 u195 u196 u197 u198 u199 u200 u201 u202 u203 u204 u205 u206 u207 u208 u209 u210 u211 u212 u213 u214 u215 u216 u217 u218 u219 u220 u221 u222 u223 u224 u225 u226 u227 u228 u229 u230 u231 u232 u233 u234 u235 u236 u237 u238 u239 u240 u241 u242 u243 u244 u245 u246 u247 u248 u249 u250 u251 u252 u253 : Value, MetK w q d fr va vb sA sB (m + 900) w' ∧ a' = ⟨#[c0, c1, c2, c3, c4, c5, c6, c7, u8, c9, .pointer (some ⟨d, 0, none⟩), .pointer (some ⟨q, 0, none⟩), va, vb, c14, .pointer (some ⟨bx, 0, none⟩), .string (nmO o), .slice oa L oc, .slice sda dl sdc, u19, u20, u21, u22, u23, u24, u25, u26, c27, c28, c29, c30, c31, c32, c33, c34, c35, c36, c37, c38, c39, c40, c41, c42, c43, c44, c45, c46, c47, c48, c49, c50, c51, c52, c53, u54, u55, u56, u57, u58, u59, u60, u61, u62, u63, u64, u65, u66, u67, u68, u69, u70, u71, u72, u73, u74, u75, u76, u77, u78, u79, .int .i64 sk, u81, u82, u83, u84, u85, u86, u87, u88, u89, u90, u91, u92, u93, u94, u95, u96, u97, u98, u99, u100, u101, u102, u103, u104, u105, u106, u107, u108, u109, u110, u111, u112, u113, u114, u115, u116, u117, u118, u119, u120, u121, u122, u123, u124, u125, u126, u127, u128, u129, u130, u131, u132, u133, u134, u135, u136, u137, u138, u139, u140, u141, u142, u143, u144, u145, u146, u147, u148, u149, u150, u151, u152, u153, u154, u155, u156, u157, u158, u159, u160, u161, u162, u163, u164, u165, u166, u167, u168, u169, u170, u171, u172, u173, u174, u175, u176, u177, u178, u179, u180, u181, u182, u183, u184, u185, u186, u187, u188, u189, u190, u191, u192, u193, u194, u195, u196, u197, u198, u199, u200, u201, u202, u203, u204, u205, u206, u207, u208, u209, u210, u211, u212, u213, u214, u215, u216, u217, u218, u219, u220, u221, u222, u223, u224, u225, u226, u227, u228, u229, u230, u231, u232, u233, u234, u235, u236, u237, u238, u239, u240, u241, u242, u243, u244, u245, u246, u247, u248, u249, u250, u251, u252, u253, c254, c255, c256, c257, c258, c259, c260, c261, c262, c263, c264, c265, c266, c267, c268, c269, c270, c271], []⟩) → J a' w') (hK : ∀ a' w', Met J a' w' → K' a' w') :
    Code.wp Try.prog codeA (Exit.then K' Q0) ⟨#[c0, c1, c2, c3, c4, c5, c6, c7, c8, c9, .pointer (some ⟨d, 0, none⟩), .pointer (some ⟨q, 0, none⟩), va, vb, c14, .pointer (some ⟨bx, 0, none⟩), .string (nmO o), .slice oa L oc, .slice sda dl sdc, c19, c20, c21, c22, c23, c24, c25, c26, c27, c28, c29, c30, c31, c32, c33, c34, c35, c36, c37, c38, c39, c40, c41, c42, c43, c44, c45, c46, c47, c48, c49, c50, c51, c52, c53, c54, c55, c56, c57, c58, c59, c60, c61, c62, c63, c64, c65, c66, c67, c68, c69, c70, c71, c72, c73, c74, c75, c76, c77, c78, c79, .int .i64 sk, c81, c82, c83, c84, c85, c86, c87, c88, c89, c90, c91, c92, c93, c94, c95, c96, c97, c98, c99, c100, c101, c102, c103, c104, c105, c106, c107, c108, c109, c110, c111, c112, c113, c114, c115, c116, c117, c118, c119, c120, c121, c122, c123, c124, c125, c126, c127, c128, c129, c130, c131, c132, c133, c134, c135, c136, c137, c138, c139, c140, c141, c142, c143, c144, c145, c146, c147, c148, c149, c150, c151, c152, c153, c154, c155, c156, c157, c158, c159, c160, c161, c162, c163, c164, c165, c166, c167, c168, c169, c170, c171, c172, c173, c174, c175, c176, c177, c178, c179, c180, c181, c182, c183, c184, c185, c186, c187, c188, c189, c190, c191, c192, c193, c194, c195, c196, c197, c198, c199, c200, c201, c202, c203, c204, c205, c206, c207, c208, c209, c210, c211, c212, c213, c214, c215, c216, c217, c218, c219, c220, c221, c222, c223, c224, c225, c226, c227, c228, c229, c230, c231, c232, c233, c234, c235, c236, c237, c238, c239, c240, c241, c242, c243, c244, c245, c246, c247, c248, c249, c250, c251, c252, c253, c254, c255, c256, c257, c258, c259, c260, c261, c262, c263, c264, c265, c266, c267, c268, c269, c270, c271], []⟩ wc := by
  conv => arg 2; whnf
  have q1 : wc.cell? ⟨bx, 1, none⟩ = some (.int .i64 sat) := cell_of_heap HBX.out 1
  have q2 : wc.cell? ⟨bx, 2, none⟩ = some (.int .i64 sn) := cell_of_heap HBX.out 2
  go_wp2_with fail
  refine (K1.out.read_arg o sat sn (by omega) h2 (by have := HL.out; omega)).mono ?_
  rintro e w5 ⟨rfl, k5, b5⟩
  have hb5 := b5.heap (b := bx) (by simp) HBX.out
  have e1 : w5.cell? ⟨bx, 1, none⟩ = some (.int .i64 sat) := cell_of_heap hb5 1
  have e2 : w5.cell? ⟨bx, 2, none⟩ = some (.int .i64 sn) := cell_of_heap hb5 2
  have K5 := hide k5
  clear k5 b5 hb5
  dsimp only
  go_wp2
  go_quiet (fail)
  go_wp2
  go_meet
  case rel => exact ⟨x, y, HXY, (K5.out.unbox.more (by omega)).drewN _⟩

end Go.Proofs.Ytbhjdcoehgajcaa.L.P

namespace Go.Proofs.Ytbhjdcoehgajcaa.L.P
open Go.RowKit Go.Maps
set_option linter.unusedVariables false

set_option maxRecDepth 1000000 in
set_option maxHeartbeats 8000000 in
theorem caseA4 (c0 c1 c2 c3 c4 c5 c6 c7 c8 c9 c14 c19 c20 c21 c22 c23 c24 c25 c26 c27 c28 c29 c30 c31 c32 c33 c34 c35 c36 c37 c38 c39 c40 c41 c42 c43 c44 c45 c46 c47 c48 c49 c50 c51 c52 c53 c54 c55 c56 c57 c58 c59 c60 c61 c62 c63 c64 c65 c66 c67 c68 c69 c70 c71 c72 c73 c74 c75 c76 c77 c78 c79 c81 c82 c83 c84 c85 c86 c87 c88 c89 c90 c91 c92 c93 c94 c95 c96 c97 c98 c99 c100 c101 c102 c103 c104 c105 c106 c107 c108 c109 c110 c111 c112 c113 c114 c115 c116 c117 c118 c119 c120 c121 c122 c123 c124 c125 c126 c127 c128 c129 c130 c131 c132 c133 c134 c135 c136 c137 c138 c139 c140 c141 c142 c143 c144 c145 c146 c147 c148 c149 c150 c151 c152 c153 c154 c155 c156 c157 c158 c159 c160 c161 c162 c163 c164 c165 c166 c167 c168 c169 c170 c171 c172 c173 c174 c175 c176 c177 c178 c179 c180 c181 c182 c183 c184 c185 c186 c187 c188 c189 c190 c191 c192 c193 c194 c195 c196 c197 c198 c199 c200 c201 c202 c203 c204 c205 c206 c207 c208 c209 c210 c211 c212 c213 c214 c215 c216 c217 c218 c219 c220 c221 c222 c223 c224 c225 c226 c227 c228 c229 c230 c231 c232 c233 c234 c235 c236 c237 c238 c239 c240 c241 c242 c243 c244 c245 c246 c247 c248 c249 c250 c251 c252 c253 c254 c255 c256 c257 c258 c259 c260 c261 c262 c263 c264 c265 c266 c267 c268 c269 c270 c271 : Value) {w wc : World} {bx q d : Nat} {fr : Int} {va vb : Value} {x y : List Int} {m sA sB : Nat} {sk sat sn : Int} {o : Bool} {oa sda : Option Addr} {oc L dl sdc sdn : Nat} 
    (HXY : Hid (x.length = sA ∧ y.length = sB)) (K1 : Hid (Kp w wc [bx] q d fr va vb x y x y (fun _ => True) m))
    (HBX : Hid (wc.heap[bx]? = some (.cells #[.int .i64 sk, .int .i64 sat, .int .i64 sn, .bool o, .slice sda sdn sdc] 32)))
    (HOWN : Hid (.slice oa L oc = sel o va vb)) (HL : Hid (L = (sel o x y).length)) (hoc : L ≤ oc) (hL3 : L ≤ 300) (hfr : fr ≤ 10) (hm : m ≤ 100000)
    (h1 : 0 ≤ sat) (h2 : sat ≤ 9223372036854775807) (h3 : sn < 0)
    (Q0 : Exit → Act → World → Prop) (J K' : Act → World → Prop) (hJ : ∀ a' w', (∃ u8 u19 u20 u21 u22 u23 u24 u25 u26 u54 u55 u56 u57 u58 u59 u60 u61 u62 u63 u64 u65 u66 u67 u68 u69 u70 u71 u72 u73 u74 u75 u76 u77 u78 u79 u81 u82 u83 u84 u85 u86 u87 u88 u89 u90 u91 u92 u93 u94 u95 u96 u97 u98 u99 u100 u101 u102 u103 u104 u105 u106 u107 u108 u109 u110 u111 u112 u113 u114 u115 u116 u117 u118 u119 u120 u121 u122 u123 u124 u125 u126 u127 u128 u129 u130 u131 u132 u133 u134 u135 u136 u137 u138 u139 u140 u141 u142 u143 u144 u145 u146 u147 u148 u149 u150 u151 u152 u153 u154 u155 u156 u157 u158 u159 u160 u161 u162 u163 u164 u165 u166 u167 u168 u169 u170 u171 u172 u173 u174 u175 u176 u177 u178 u179 u180 u181 u182 u183 u184 u185 u186 u187 u188 u189 u190 u191 u192 u193 u194 u195 u196 u197 u198 u199 u200 u201 u202 u203 u204 u205 u206 u207 u208 u209 u210 u211 u212 u213 u214 u215 u216 u217 u218 u219 u220 u221 u222 u223 u224 u225 u226 u227 u228 u229 u230 u231 u232 u233 u234 u235 u236 u237 u238 u239 u240 u241 u242 u243 u244 u245 u246 u247 u248 u249 u250 u251 u252 u253 : Value, MetK w q d fr va vb sA sB (m + 900) w' ∧ a' = ⟨#[c0, c1, c2, c3, c4, c5, c6, c7, u8, c9, .pointer (some ⟨d, 0, none⟩), .pointer (some ⟨q, 0, none⟩), va, vb, c14, .pointer (some ⟨bx, 0, none⟩), .string (nmO o), .slice oa L oc, .slice sda dl sdc, u19, u20, u21, u22, u23, u24, u25, u26, c27, c28, c29, c30, c31, c32, c33, c34, c35, c36, c37, c38, c39, c40, c41, c42, c43, c44, c45, c46, c47, c48, c49, c50, c51, c52, c53, u54, u55, u56, u57, u58, u59, u60, u61, u62, u63, u64, u65, u66, u67, u68, u69, u70, u71, u72, u73, u74, u75, u76, u77, u78, u79, .int .i64 sk, u81, u82, u83, u84, u85, u86, u87, u88, u89, u90, u91, u92, u93, u94, u95, u96, u97, u98, u99, u100, u101, u102, u103, u104, u105, u106, u107, u108, u109, u110, u111, u112, u113, u114, u115, u116, u117, u118, u119, u120, u121, u122, u123, u124, u125, u126, u127, u128, u129, u130, u131, u132, u133, u134, u135, u136, u137, u138, u139, u140, u141, u142, u143, u144, u145, u146, u147, u148, u149, u150, u151, u152, u153, u154, u155, u156, u157, u158, u159, u160, u161, u162, u163, u164, u165, u166, u167, u168, u169, u170, u171, u172, u173, u174, u175, u176, u177, u178, u179, u180, u181, u182, u183, u184, u185, u186, u187, u188, u189, u190, u191, u192, u193, u194, u195, u196, u197, u198, u199, u200, u201, u202, u203, u204, u205, u206, u207, u208, u209, u210, u211, u212, u213, u214, u215, u216, u217, u218, u219, u220, u221, u222, u223, u224, u225, u226, u227, u228, u229, u230, u231, u232, u233, u234, u235, u236, u237, u238, u239, u240, u241, u242, u243, u244, u245, u246, u247, u248, u249, u250, u251, u252, u253, c254, c255, c256, c257, c258, c259, c260, c261, c262, c263, c264, c265, c266, c267, c268, c269, c270, c271], []⟩) → J a' w') (hK : ∀ a' w', Met J a' w' → K' a' w') :
    Code.wp Try.prog codeA (Exit.then K' Q0) ⟨#[c0, c1, c2, c3, c4, c5, c6, c7, c8, c9, .pointer (some ⟨d, 0, none⟩), .pointer (some ⟨q, 0, none⟩), va, vb, c14, .pointer (some ⟨bx, 0, none⟩), .string (nmO o), .slice oa L oc, .slice sda dl sdc, c19, c20, c21, c22, c23, c24, c25, c26, c27, c28, c29, c30, c31, c32, c33, c34, c35, c36, c37, c38, c39, c40, c41, c42, c43, c44, c45, c46, c47, c48, c49, c50, c51, c52, c53, c54, c55, c56, c57, c58, c59, c60, c61, c62, c63, c64, c65, c66, c67, c68, c69, c70, c71, c72, c73, c74, c75, c76, c77, c78, c79, .int .i64 sk, c81, c82, c83, c84, c85, c86, c87, c88, c89, c90, c91, c92, c93, c94, c95, c96, c97, c98, c99, c100, c101, c102, c103, c104, c105, c106, c107, c108, c109, c110, c111, c112, c113, c114, c115, c116, c117, c118, c119, c120, c121, c122, c123, c124, c125, c126, c127, c128, c129, c130, c131, c132, c133, c134, c135, c136, c137, c138, c139, c140, c141, c142, c143, c144, c145, c146, c147, c148, c149, c150, c151, c152, c153, c154, c155, c156, c157, c158, c159, c160, c161, c162, c163, c164, c165, c166, c167, c168, c169, c170, c171, c172, c173, c174, c175, c176, c177, c178, c179, c180, c181, c182, c183, c184, c185, c186, c187, c188, c189, c190, c191, c192, c193, c194, c195, c196, c197, c198, c199, c200, c201, c202, c203, c204, c205, c206, c207, c208, c209, c210, c211, c212, c213, c214, c215, c216, c217, c218, c219, c220, c221, c222, c223, c224, c225, c226, c227, c228, c229, c230, c231, c232, c233, c234, c235, c236, c237, c238, c239, c240, c241, c242, c243, c244, c245, c246, c247, c248, c249, c250, c251, c252, c253, c254, c255, c256, c257, c258, c259, c260, c261, c262, c263, c264, c265, c266, c267, c268, c269, c270, c271], []⟩ wc := by
  conv => arg 2; whnf
  have q1 : wc.cell? ⟨bx, 1, none⟩ = some (.int .i64 sat) := cell_of_heap HBX.out 1
  have q2 : wc.cell? ⟨bx, 2, none⟩ = some (.int .i64 sn) := cell_of_heap HBX.out 2
  go_wp2_with fail
  refine (K1.out.read_arg o sat sn (by omega) h2 (by have := HL.out; omega)).mono ?_
  rintro e w5 ⟨rfl, k5, b5⟩
  have hb5 := b5.heap (b := bx) (by simp) HBX.out
  have e1 : w5.cell? ⟨bx, 1, none⟩ = some (.int .i64 sat) := cell_of_heap hb5 1
  have e2 : w5.cell? ⟨bx, 2, none⟩ = some (.int .i64 sn) := cell_of_heap hb5 2
  have K5 := hide k5
  clear k5 b5 hb5
  dsimp only
  go_wp2
  go_quiet (fail)
  go_wp2
  go_meet
  case rel => exact ⟨x, y, HXY, (K5.out.unbox.more (by omega)).drewN _⟩

end Go.Proofs.Ytbhjdcoehgajcaa.L.P

namespace Go.Proofs.Ytbhjdcoehgajcaa.L.P
open Go.RowKit Go.Maps
set_option linter.unusedVariables false

set_option maxRecDepth 1000000 in
set_option maxHeartbeats 8000000 in
theorem caseA5 (c0 c1 c2 c3 c4 c5 c6 c7 c8 c9 c14 c19 c20 c21 c22 c23 c24 c25 c26 c27 c28 c29 c30 c31 c32 c33 c34 c35 c36 c37 c38 c39 c40 c41 c42 c43 c44 c45 c46 c47 c48 c49 c50 c51 c52 c53 c54 c55 c56 c57 c58 c59 c60 c61 c62 c63 c64 c65 c66 c67 c68 c69 c70 c71 c72 c73 c74 c75 c76 c77 c78 c79 c81 c82 c83 c84 c85 c86 c87 c88 c89 c90 c91 c92 c93 c94 c95 c96 c97 c98 c99 c100 c101 c102 c103 c104 c105 c106 c107 c108 c109 c110 c111 c112 c113 c114 c115 c116 c117 c118 c119 c120 c121 c122 c123 c124 c125 c126 c127 c128 c129 c130 c131 c132 c133 c134 c135 c136 c137 c138 c139 c140 c141 c142 c143 c144 c145 c146 c147 c148 c149 c150 c151 c152 c153 c154 c155 c156 c157 c158 c159 c160 c161 c162 c163 c164 c165 c166 c167 c168 c169 c170 c171 c172 c173 c174 c175 c176 c177 c178 c179 c180 c181 c182 c183 c184 c185 c186 c187 c188 c189 c190 c191 c192 c193 c194 c195 c196 c197 c198 c199 c200 c201 c202 c203 c204 c205 c206 c207 c208 c209 c210 c211 c212 c213 c214 c215 c216 c217 c218 c219 c220 c221 c222 c223 c224 c225 c226 c227 c228 c229 c230 c231 c232 c233 c234 c235 c236 c237 c238 c239 c240 c241 c242 c243 c244 c245 c246 c247 c248 c249 c250 c251 c252 c253 c254 c255 c256 c257 c258 c259 c260 c261 c262 c263 c264 c265 c266 c267 c268 c269 c270 c271 : Value) {w wc : World} {bx q d : Nat} {fr : Int} {va vb : Value} {x y : List Int} {m sA sB : Nat} {sk sat sn : Int} {o : Bool} {oa sda : Option Addr} {oc L dl sdc sdn : Nat} 
    (HXY : Hid (x.length = sA ∧ y.length = sB)) (K1 : Hid (Kp w wc [bx] q d fr va vb x y x y (fun _ => True) m))
    (HBX : Hid (wc.heap[bx]? = some (.cells #[.int .i64 sk, .int .i64 sat, .int .i64 sn, .bool o, .slice sda sdn sdc] 32)))
    (HOWN : Hid (.slice oa L oc = sel o va vb)) (HL : Hid (L = (sel o x y).length)) (hoc : L ≤ oc) (hL3 : L ≤ 300) (hfr : fr ≤ 10) (hm : m ≤ 100000)
    (h1 : 0 ≤ sat) (h2 : sat ≤ 9223372036854775807) (h3 : 0 ≤ sn) (h4 : (L : Int) < sat)
    (Q0 : Exit → Act → World → Prop) (J K' : Act → World → Prop) (hJ : ∀ a' w', (∃ u8 u19 u20 u21 u22 u23 u24 u25 u26 u54 u55 u56 u57 u58 u59 u60 u61 u62 u63 u64 u65 u66 u67 u68 u69 u70 u71 u72 u73 u74 u75 u76 u77 u78 u79 u81 u82 u83 u84 u85 u86 u87 u88 u89 u90 u91 u92 u93 u94 u95 u96 u97 u98 u99 u100 u101 u102 u103 u104 u105 u106 u107 u108 u109 u110 u111 u112 u113 u114 u115 u116 u117 u118 u119 u120 u121 u122 u123 u124 u125 u126 u127 u128 u129 u130 u131 u132 u133 u134 u135 u136 u137 u138 u139 u140 u141 u142 u143 u144 u145 u146 u147 u148 u149 u150 u151 u152 u153 u154 u155 u156 u157 u158 u159 u160 u161 u162 u163 u164 u165 u166 u167 u168 u169 u170 u171 u172 u173 u174 u175 u176 u177 u178 u179 u180 u181 u182 u183 u184 u185 u186 u187 u188 u189 u190 u191 u192 u193 u194 u195 u196 u197 u198 u199 u200 u201 u202 u203 u204 u205 u206 u207 u208 u209 u210 u211 u212 u213 u214 u215 u216 u217 u218 u219 u220 u221 u222 u223 u224 u225 u226 u227 u228 u229 u230 u231 u232 u233 u234 u235 u236 u237 u238 u239 u240 u241 u242 u243 u244 u245 u246 u247 u248 u249 u250 u251 u252 u253 : Value, MetK w q d fr va vb sA sB (m + 900) w' ∧ a' = ⟨#[c0, c1, c2, c3, c4, c5, c6, c7, u8, c9, .pointer (some ⟨d, 0, none⟩), .pointer (some ⟨q, 0, none⟩), va, vb, c14, .pointer (some ⟨bx, 0, none⟩), .string (nmO o), .slice oa L oc, .slice sda dl sdc, u19, u20, u21, u22, u23, u24, u25, u26, c27, c28, c29, c30, c31, c32, c33, c34, c35, c36, c37, c38, c39, c40, c41, c42, c43, c44, c45, c46, c47, c48, c49, c50, c51, c52, c53, u54, u55, u56, u57, u58, u59, u60, u61, u62, u63, u64, u65, u66, u67, u68, u69, u70, u71, u72, u73, u74, u75, u76, u77, u78, u79, .int .i64 sk, u81, u82, u83, u84, u85, u86, u87, u88, u89, u90, u91, u92, u93, u94, u95, u96, u97, u98, u99, u100, u101, u102, u103, u104, u105, u106, u107, u108, u109, u110, u111, u112, u113, u114, u115, u116, u117, u118, u119, u120, u121, u122, u123, u124, u125, u126, u127, u128, u129, u130, u131, u132, u133, u134, u135, u136, u137, u138, u139, u140, u141, u142, u143, u144, u145, u146, u147, u148, u149, u150, u151, u152, u153, u154, u155, u156, u157, u158, u159, u160, u161, u162, u163, u164, u165, u166, u167, u168, u169, u170, u171, u172, u173, u174, u175, u176, u177, u178, u179, u180, u181, u182, u183, u184, u185, u186, u187, u188, u189, u190, u191, u192, u193, u194, u195, u196, u197, u198, u199, u200, u201, u202, u203, u204, u205, u206, u207, u208, u209, u210, u211, u212, u213, u214, u215, u216, u217, u218, u219, u220, u221, u222, u223, u224, u225, u226, u227, u228, u229, u230, u231, u232, u233, u234, u235, u236, u237, u238, u239, u240, u241, u242, u243, u244, u245, u246, u247, u248, u249, u250, u251, u252, u253, c254, c255, c256, c257, c258, c259, c260, c261, c262, c263, c264, c265, c266, c267, c268, c269, c270, c271], []⟩) → J a' w') (hK : ∀ a' w', Met J a' w' → K' a' w') :
    Code.wp Try.prog codeA (Exit.then K' Q0) ⟨#[c0, c1, c2, c3, c4, c5, c6, c7, c8, c9, .pointer (some ⟨d, 0, none⟩), .pointer (some ⟨q, 0, none⟩), va, vb, c14, .pointer (some ⟨bx, 0, none⟩), .string (nmO o), .slice oa L oc, .slice sda dl sdc, c19, c20, c21, c22, c23, c24, c25, c26, c27, c28, c29, c30, c31, c32, c33, c34, c35, c36, c37, c38, c39, c40, c41, c42, c43, c44, c45, c46, c47, c48, c49, c50, c51, c52, c53, c54, c55, c56, c57, c58, c59, c60, c61, c62, c63, c64, c65, c66, c67, c68, c69, c70, c71, c72, c73, c74, c75, c76, c77, c78, c79, .int .i64 sk, c81, c82, c83, c84, c85, c86, c87, c88, c89, c90, c91, c92, c93, c94, c95, c96, c97, c98, c99, c100, c101, c102, c103, c104, c105, c106, c107, c108, c109, c110, c111, c112, c113, c114, c115, c116, c117, c118, c119, c120, c121, c122, c123, c124, c125, c126, c127, c128, c129, c130, c131, c132, c133, c134, c135, c136, c137, c138, c139, c140, c141, c142, c143, c144, c145, c146, c147, c148, c149, c150, c151, c152, c153, c154, c155, c156, c157, c158, c159, c160, c161, c162, c163, c164, c165, c166, c167, c168, c169, c170, c171, c172, c173, c174, c175, c176, c177, c178, c179, c180, c181, c182, c183, c184, c185, c186, c187, c188, c189, c190, c191, c192, c193, c194, c195, c196, c197, c198, c199, c200, c201, c202, c203, c204, c205, c206, c207, c208, c209, c210, c211, c212, c213, c214, c215, c216, c217, c218, c219, c220, c221, c222, c223, c224, c225, c226, c227, c228, c229, c230, c231, c232, c233, c234, c235, c236, c237, c238, c239, c240, c241, c242, c243, c244, c245, c246, c247, c248, c249, c250, c251, c252, c253, c254, c255, c256, c257, c258, c259, c260, c261, c262, c263, c264, c265, c266, c267, c268, c269, c270, c271], []⟩ wc := by
  conv => arg 2; whnf
  have q1 : wc.cell? ⟨bx, 1, none⟩ = some (.int .i64 sat) := cell_of_heap HBX.out 1
  have q2 : wc.cell? ⟨bx, 2, none⟩ = some (.int .i64 sn) := cell_of_heap HBX.out 2
  go_wp2_with fail
  refine (K1.out.read_arg o sat sn (by omega) h2 (by have := HL.out; omega)).mono ?_
  rintro e w5 ⟨rfl, k5, b5⟩
  have hb5 := b5.heap (b := bx) (by simp) HBX.out
  have e1 : w5.cell? ⟨bx, 1, none⟩ = some (.int .i64 sat) := cell_of_heap hb5 1
  have e2 : w5.cell? ⟨bx, 2, none⟩ = some (.int .i64 sn) := cell_of_heap hb5 2
  have K5 := hide k5
  clear k5 b5 hb5
  dsimp only
  go_wp2
  go_quiet (fail)
  go_wp2
  go_meet
  case rel => exact ⟨x, y, HXY, (K5.out.unbox.more (by omega)).drewN _⟩

end Go.Proofs.Ytbhjdcoehgajcaa.L.P

namespace Go.Proofs.Ytbhjdcoehgajcaa.L.P
open Go.RowKit Go.Maps
set_option linter.unusedVariables false

set_option maxRecDepth 1000000 in
set_option maxHeartbeats 8000000 in
theorem caseA6 (c0 c1 c2 c3 c4 c5 c6 c7 c8 c9 c14 c19 c20 c21 c22 c23 c24 c25 c26 c27 c28 c29 c30 c31 c32 c33 c34 c35 c36 c37 c38 c39 c40 c41 c42 c43 c44 c45 c46 c47 c48 c49 c50 c51 c52 c53 c54 c55 c56 c57 c58 c59 c60 c61 c62 c63 c64 c65 c66 c67 c68 c69 c70 c71 c72 c73 c74 c75 c76 c77 c78 c79 c81 c82 c83 c84 c85 c86 c87 c88 c89 c90 c91 c92 c93 c94 c95 c96 c97 c98 c99 c100 c101 c102 c103 c104 c105 c106 c107 c108 c109 c110 c111 c112 c113 c114 c115 c116 c117 c118 c119 c120 c121 c122 c123 c124 c125 c126 c127 c128 c129 c130 c131 c132 c133 c134 c135 c136 c137 c138 c139 c140 c141 c142 c143 c144 c145 c146 c147 c148 c149 c150 c151 c152 c153 c154 c155 c156 c157 c158 c159 c160 c161 c162 c163 c164 c165 c166 c167 c168 c169 c170 c171 c172 c173 c174 c175 c176 c177 c178 c179 c180 c181 c182 c183 c184 c185 c186 c187 c188 c189 c190 c191 c192 c193 c194 c195 c196 c197 c198 c199 c200 c201 c202 c203 c204 c205 c206 c207 c208 c209 c210 c211 c212 c213 c214 c215 c216 c217 c218 c219 c220 c221 c222 c223 c224 c225 c226 c227 c228 c229 c230 c231 c232 c233 c234 c235 c236 c237 c238 c239 c240 c241 c242 c243 c244 c245 c246 c247 c248 c249 c250 c251 c252 c253 c254 c255 c256 c257 c258 c259 c260 c261 c262 c263 c264 c265 c266 c267 c268 c269 c270 c271 : Value) {w wc : World} {bx q d : Nat} {fr : Int} {va vb : Value} {x y : List Int} {m sA sB : Nat} {sk sat sn : Int} {o : Bool} {oa sda : Option Addr} {oc L dl sdc sdn : Nat} 
    (HXY : Hid (x.length = sA ∧ y.length = sB)) (K1 : Hid (Kp w wc [bx] q d fr va vb x y x y (fun _ => True) m))
    (HBX : Hid (wc.heap[bx]? = some (.cells #[.int .i64 sk, .int .i64 sat, .int .i64 sn, .bool o, .slice sda sdn sdc] 32)))
    (HOWN : Hid (.slice oa L oc = sel o va vb)) (HL : Hid (L = (sel o x y).length)) (hoc : L ≤ oc) (hL3 : L ≤ 300) (hfr : fr ≤ 10) (hm : m ≤ 100000)
    (h1 : 0 ≤ sat) (h2 : sat ≤ 9223372036854775807) (h3 : 0 ≤ sn) (h4 : sat ≤ (L : Int)) (h5 : (L : Int) - sat < sn)
    (Q0 : Exit → Act → World → Prop) (J K' : Act → World → Prop) (hJ : ∀ a' w', (∃ u8 u19 u20 u21 u22 u23 u24 u25 u26 u54 u55 u56 u57 u58 u59 u60 u61 u62 u63 u64 u65 u66 u67 u68 u69 u70 u71 u72 u73 u74 u75 u76 u77 u78 u79 u81 u82 u83 u84 u85 u86 u87 u88 u89 u90 u91 u92 u93 u94 u95 u96 u97 u98 u99 u100 u101 u102 u103 u104 u105 u106 u107 u108 u109 u110 u111 u112 u113 u114 u115 u116 u117 u118 u119 u120 u121 u122 u123 u124 u125 u126 u127 u128 u129 u130 u131 u132 u133 u134 u135 u136 u137 u138 u139 u140 u141 u142 u143 u144 u145 u146 u147 u148 u149 u150 u151 u152 u153 u154 u155 u156 u157 u158 u159 u160 u161 u162 u163 u164 u165 u166 u167 u168 u169 u170 u171 u172 u173 u174 u175 u176 u177 u178 u179 u180 u181 u182 u183 u184 u185 u186 u187 u188 u189 u190 u191 u192 u193 u194 u195 u196 u197 u198 u199 u200 u201 u202 u203 u204 u205 u206 u207 u208 u209 u210 u211 u212 u213 u214 u215 u216 u217 u218 u219 u220 u221 u222 u223 u224 u225 u226 u227 u228 u229 u230 u231 u232 u233 u234 u235 u236 u237 u238 u239 u240 u241 u242 u243 u244 u245 u246 u247 u248 u249 u250 u251 u252 u253 : Value, MetK w q d fr va vb sA sB (m + 900) w' ∧ a' = ⟨#[c0, c1, c2, c3, c4, c5, c6, c7, u8, c9, .pointer (some ⟨d, 0, none⟩), .pointer (some ⟨q, 0, none⟩), va, vb, c14, .pointer (some ⟨bx, 0, none⟩), .string (nmO o), .slice oa L oc, .slice sda dl sdc, u19, u20, u21, u22, u23, u24, u25, u26, c27, c28, c29, c30, c31, c32, c33, c34, c35, c36, c37, c38, c39, c40, c41, c42, c43, c44, c45, c46, c47, c48, c49, c50, c51, c52, c53, u54, u55, u56, u57, u58, u59, u60, u61, u62, u63, u64, u65, u66, u67, u68, u69, u70, u71, u72, u73, u74, u75, u76, u77, u78, u79, .int .i64 sk, u81, u82, u83, u84, u85, u86, u87, u88, u89, u90, u91, u92, u93, u94, u95, u96, u97, u98, u99, u100, u101, u102, u103, u104, u105, u106, u107, u108, u109, u110, u111, u112, u113, u114, u115, u116, u117, u118, u119, u120, u121, u122, u123, u124, u125, u126, u127, u128, u129, u130, u131, u132, u133, u134, u135, u136, u137, u138, u139, u140, u141, u142, u143, u144, u145, u146, u147, u148, u149, u150, u151, u152, u153, u154, u155, u156, u157, u158, u159, u160, u161, u162, u163, u164, u165, u166, u167, u168, u169, u170, u171, u172, u173, u174, u175, u176, u177, u178, u179, u180, u181, u182, u183, u184, u185, u186, u187, u188, u189, u190, u191, u192, u193, u194, u195, u196, u197, u198, u199, u200, u201, u202, u203, u204, u205, u206, u207, u208, u209, u210, u211, u212, u213, u214, u215, u216, u217, u218, u219, u220, u221, u222, u223, u224, u225, u226, u227, u228, u229, u230, u231, u232, u233, u234, u235, u236, u237, u238, u239, u240, u241, u242, u243, u244, u245, u246, u247, u248, u249, u250, u251, u252, u253, c254, c255, c256, c257, c258, c259, c260, c261, c262, c263, c264, c265, c266, c267, c268, c269, c270, c271], []⟩) → J a' w') (hK : ∀ a' w', Met J a' w' → K' a' w') :
    Code.wp Try.prog codeA (Exit.then K' Q0) ⟨#[c0, c1, c2, c3, c4, c5, c6, c7, c8, c9, .pointer (some ⟨d, 0, none⟩), .pointer (some ⟨q, 0, none⟩), va, vb, c14, .pointer (some ⟨bx, 0, none⟩), .string (nmO o), .slice oa L oc, .slice sda dl sdc, c19, c20, c21, c22, c23, c24, c25, c26, c27, c28, c29, c30, c31, c32, c33, c34, c35, c36, c37, c38, c39, c40, c41, c42, c43, c44, c45, c46, c47, c48, c49, c50, c51, c52, c53, c54, c55, c56, c57, c58, c59, c60, c61, c62, c63, c64, c65, c66, c67, c68, c69, c70, c71, c72, c73, c74, c75, c76, c77, c78, c79, .int .i64 sk, c81, c82, c83, c84, c85, c86, c87, c88, c89, c90, c91, c92, c93, c94, c95, c96, c97, c98, c99, c100, c101, c102, c103, c104, c105, c106, c107, c108, c109, c110, c111, c112, c113, c114, c115, c116, c117, c118, c119, c120, c121, c122, c123, c124, c125, c126, c127, c128, c129, c130, c131, c132, c133, c134, c135, c136, c137, c138, c139, c140, c141, c142, c143, c144, c145, c146, c147, c148, c149, c150, c151, c152, c153, c154, c155, c156, c157, c158, c159, c160, c161, c162, c163, c164, c165, c166, c167, c168, c169, c170, c171, c172, c173, c174, c175, c176, c177, c178, c179, c180, c181, c182, c183, c184, c185, c186, c187, c188, c189, c190, c191, c192, c193, c194, c195, c196, c197, c198, c199, c200, c201, c202, c203, c204, c205, c206, c207, c208, c209, c210, c211, c212, c213, c214, c215, c216, c217, c218, c219, c220, c221, c222, c223, c224, c225, c226, c227, c228, c229, c230, c231, c232, c233, c234, c235, c236, c237, c238, c239, c240, c241, c242, c243, c244, c245, c246, c247, c248, c249, c250, c251, c252, c253, c254, c255, c256, c257, c258, c259, c260, c261, c262, c263, c264, c265, c266, c267, c268, c269, c270, c271], []⟩ wc := by
  conv => arg 2; whnf
  have q1 : wc.cell? ⟨bx, 1, none⟩ = some (.int .i64 sat) := cell_of_heap HBX.out 1
  have q2 : wc.cell? ⟨bx, 2, none⟩ = some (.int .i64 sn) := cell_of_heap HBX.out 2
  have hw2 : IntKind.i64.wrap ((L : Int) - sat) = (L : Int) - sat := i64_small _ (by omega) (by omega)
  have h6 : ¬ sn ≤ (L : Int) - sat := by omega
  go_wp2_with fail
  refine (K1.out.read_arg o sat sn (by omega) h2 (by have := HL.out; omega)).mono ?_
  rintro e w5 ⟨rfl, k5, b5⟩
  have hb5 := b5.heap (b := bx) (by simp) HBX.out
  have e1 : w5.cell? ⟨bx, 1, none⟩ = some (.int .i64 sat) := cell_of_heap hb5 1
  have e2 : w5.cell? ⟨bx, 2, none⟩ = some (.int .i64 sn) := cell_of_heap hb5 2
  have K5 := hide k5
  clear k5 b5 hb5
  dsimp only
  go_wp2
  go_quiet (fail)
  go_wp2
  go_meet
  case rel => exact ⟨x, y, HXY, (K5.out.unbox.more (by omega)).drewN _⟩

end Go.Proofs.Ytbhjdcoehgajcaa.L.P
