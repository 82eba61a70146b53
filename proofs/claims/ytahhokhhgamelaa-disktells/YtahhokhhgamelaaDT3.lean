/-
  One way through a step: ReadAt. A lemma file: no statement of the seat is proved here.
-/
import Derived.WalkKit
import Derived.ProofKit
import Derived.OpenShut
import Derived.ShutString
import Derived.Test.YtahhokhhgamelaaDTCode
namespace Go.Proofs.Ytahhokhhgamelaa
open Go.RowKit Go.Maps
set_option linter.unusedVariables false

theorem readA_len {A : List Ab × Ds} (h : okA A.1 A.2) (n : List UInt8) (a m : Int) : (readA A n a m).1.length ≤ 1073741824 := by
  unfold readA
  split
  · simp
  · split
    · simp
    · rename_i x hx
      split
      · simp
      · have := (h.file _ (lookA_mem hx).1).1
        simp only [List.length_take, List.length_drop]
        omega

set_option maxRecDepth 1000000 in
set_option maxHeartbeats 4000000 in
theorem case3 (c0 c1 c2 c3 c4 c5 c8 c12 c13 c14 c15 c16 c17 c18 c19 c20 c21 c22 c23 c24 c25 c26 c27 c28 c29 c30 c31 c32 c33 c34 c35 c36 c37 c38 c39 c40 c41 c42 c43 c44 c46 c47 c48 c49 c50 c51 c52 c53 c54 c55 c56 c57 c58 c59 c60 c61 c62 c63 c64 c65 c66 c67 c68 c69 c70 c71 c72 c73 c74 c75 c76 c77 c78 c79 c80 c81 c82 c83 c84 c85 c86 c87 c88 c89 c90 c91 c92 c93 c94 c95 c96 c97 c98 c99 c100 c101 c102 c103 c104 c105 c106 c107 c108 c109 c110 c111 c112 c113 c114 c115 c116 c117 c118 c119 c120 c121 c122 c123 c124 c125 c126 c127 c128 c129 c130 c131 c132 c133 c134 c135 c136 c137 c138 c139 c140 c141 c142 c143 c144 c145 c146 c147 c148 c149 c150 c151 c152 c153 c154 c155 c156 c157 c158 c159 c160 c161 c162 c163 c164 c165 c166 c167 c168 c169 c170 c171 c172 c173 c174 c175 c176 c177 c178 c179 c180 c181 c182 c183 c184 c185 c186 c187 c188 c189 c190 c191 c192 c193 c194 c195 c196 c197 c198 c199 c200 c201 c202 c203 c204 c205 c206 c207 c208 c209 c210 c211 c212 c213 c214 c215 c216 c217 c218 c219 c220 c221 c222 c223 c224 c225 c226 c227 c228 c229 c230 c231 c232 c233 c234 c235 c236 c237 c238 c239 c240 c241 c242 c243 c244 c245 c246 c247 c248 c249 c250 c251 c252 c253 c254 c255 c256 c257 c258 c259 c260 c261 c262 c263 c264 c265 : Value) {w wc : World} {p r bx : Nat} {l : List Ab} {s : Ds} {kind at_ n : Int} {nm ot : ByteArray} {da : Option Addr} {dm dc : Nat} {ka : Option Addr} {km kc : Nat} {cs : List Int} {js : List Bool}
    (H : Hid (Half w wc p r [bx] (l, s) (l, s))) (HB : Hid (Bx wc bx kind at_ n nm ot da dm dc ka km kc)) (hops : s.ops ≤ 80) (HNM : Hid (nm.size ≤ maxLen)) (HOT : Hid (ot.size ≤ maxLen)) (HA0 : Hid (-9223372036854775808 ≤ at_ ∧ at_ ≤ 9223372036854775807)) (HN0 : Hid (-9223372036854775808 ≤ n ∧ n ≤ 9223372036854775807))
    (HROW : Hid (IsB w (.slice da dm dc) cs ∧ cs.length = dm ∧ dm ≤ 60)) (HKEEP : Hid (IsK w (.slice ka km kc) js ∧ js.length ≤ 60))
    (Q0 : Exit → Act → World → Prop) (J K' : Act → World → Prop) (hJ : ∀ a' w', (∃ u4 u10 u11 u12 u13 u14 u15 u16 u17 u18 u19 u29 u30 u31 u32 u33 u34 u35 u36 u37 u38 u39 u40 u41 u42 u43 u44 u46 u47 u48 u49 u50 u51 u52 u53 u54 u55 u56 u57 u58 u59 u60 u61 u62 u63 u64 u65 u66 u67 u68 u69 u70 u71 u72 u73 u74 u75 u76 u77 u78 u79 u80 u81 u82 u83 u84 u85 u86 u87 u88 u89 u90 u91 u92 u93 u94 u95 u96 u97 u98 u99 u100 u101 u102 u103 u104 u105 u106 u107 u108 u109 u110 u111 u112 u113 u114 u115 u116 u117 u118 u119 u120 u121 u122 u123 u124 u125 u126 u127 u128 u129 u130 u131 u132 u133 u134 u135 u136 u137 u138 u139 u140 u141 u142 u143 u144 u145 u146 u147 u148 u149 u150 u151 u152 u153 u154 u155 u156 u157 u158 u159 u160 u161 u162 u163 u164 u165 u166 u167 u168 u169 u170 u171 u172 u173 u174 u175 u176 u177 u178 u179 u180 u181 u182 u183 u184 u185 u186 u187 u188 u189 u190 u191 u192 u193 u194 u195 u196 u197 u198 u199 u200 u201 u202 u203 u204 u205 u206 u207 u208 u209 u210 u211 u212 u213 u214 u215 u216 u217 u218 u219 u220 u221 u222 u223 u224 u225 u226 u227 u228 u229 u230 u231 u232 u233 u234 u235 u236 u237 u238 u239 u240 u241 u242 u243 u244 u245 u246 u247 u248 u249 u250 u251 u252 u253 u254 u255 u256 u257 u258 u259 u260 u261 u262 u263 u264 : Value, MetD w p r s.ops u10 u11 w' ∧ a' = ⟨#[c0, c1, c2, c3, u4, c5, .pointer (some ⟨p, 0, none⟩), .pointer (some ⟨r, 0, none⟩), c8, .pointer (some ⟨bx, 0, none⟩), u10, u11, u12, u13, u14, u15, u16, u17, u18, u19, c20, c21, c22, c23, c24, c25, c26, c27, c28, u29, u30, u31, u32, u33, u34, u35, u36, u37, u38, u39, u40, u41, u42, u43, u44, .int .i64 kind, u46, u47, u48, u49, u50, u51, u52, u53, u54, u55, u56, u57, u58, u59, u60, u61, u62, u63, u64, u65, u66, u67, u68, u69, u70, u71, u72, u73, u74, u75, u76, u77, u78, u79, u80, u81, u82, u83, u84, u85, u86, u87, u88, u89, u90, u91, u92, u93, u94, u95, u96, u97, u98, u99, u100, u101, u102, u103, u104, u105, u106, u107, u108, u109, u110, u111, u112, u113, u114, u115, u116, u117, u118, u119, u120, u121, u122, u123, u124, u125, u126, u127, u128, u129, u130, u131, u132, u133, u134, u135, u136, u137, u138, u139, u140, u141, u142, u143, u144, u145, u146, u147, u148, u149, u150, u151, u152, u153, u154, u155, u156, u157, u158, u159, u160, u161, u162, u163, u164, u165, u166, u167, u168, u169, u170, u171, u172, u173, u174, u175, u176, u177, u178, u179, u180, u181, u182, u183, u184, u185, u186, u187, u188, u189, u190, u191, u192, u193, u194, u195, u196, u197, u198, u199, u200, u201, u202, u203, u204, u205, u206, u207, u208, u209, u210, u211, u212, u213, u214, u215, u216, u217, u218, u219, u220, u221, u222, u223, u224, u225, u226, u227, u228, u229, u230, u231, u232, u233, u234, u235, u236, u237, u238, u239, u240, u241, u242, u243, u244, u245, u246, u247, u248, u249, u250, u251, u252, u253, u254, u255, u256, u257, u258, u259, u260, u261, u262, u263, u264, c265], []⟩) → J a' w') (hK : ∀ a' w', Met J a' w' → K' a' w') :
    Code.wp Try.prog code3 (Exit.then K' Q0) ⟨#[c0, c1, c2, c3, c4, c5, .pointer (some ⟨p, 0, none⟩), .pointer (some ⟨r, 0, none⟩), c8, .pointer (some ⟨bx, 0, none⟩), .int .i64 0, .int .i64 0, c12, c13, c14, c15, c16, c17, c18, c19, c20, c21, c22, c23, c24, c25, c26, c27, c28, c29, c30, c31, c32, c33, c34, c35, c36, c37, c38, c39, c40, c41, c42, c43, c44, .int .i64 kind, c46, c47, c48, c49, c50, c51, c52, c53, c54, c55, c56, c57, c58, c59, c60, c61, c62, c63, c64, c65, c66, c67, c68, c69, c70, c71, c72, c73, c74, c75, c76, c77, c78, c79, c80, c81, c82, c83, c84, c85, c86, c87, c88, c89, c90, c91, c92, c93, c94, c95, c96, c97, c98, c99, c100, c101, c102, c103, c104, c105, c106, c107, c108, c109, c110, c111, c112, c113, c114, c115, c116, c117, c118, c119, c120, c121, c122, c123, c124, c125, c126, c127, c128, c129, c130, c131, c132, c133, c134, c135, c136, c137, c138, c139, c140, c141, c142, c143, c144, c145, c146, c147, c148, c149, c150, c151, c152, c153, c154, c155, c156, c157, c158, c159, c160, c161, c162, c163, c164, c165, c166, c167, c168, c169, c170, c171, c172, c173, c174, c175, c176, c177, c178, c179, c180, c181, c182, c183, c184, c185, c186, c187, c188, c189, c190, c191, c192, c193, c194, c195, c196, c197, c198, c199, c200, c201, c202, c203, c204, c205, c206, c207, c208, c209, c210, c211, c212, c213, c214, c215, c216, c217, c218, c219, c220, c221, c222, c223, c224, c225, c226, c227, c228, c229, c230, c231, c232, c233, c234, c235, c236, c237, c238, c239, c240, c241, c242, c243, c244, c245, c246, c247, c248, c249, c250, c251, c252, c253, c254, c255, c256, c257, c258, c259, c260, c261, c262, c263, c264, c265], []⟩ wc := by
  conv => arg 2; whnf
  obtain ⟨z0, z1, z2, z3, z4, z5, z6⟩ := box7 HB.out
  go_wp2_with fail
  refine (Duo.readAt H.out (by omega) nm HNM.out at_ n HA0.out HN0.out).mono ?_
  rintro e w5 ⟨va, rfl, ra, h5, q5, fr⟩
  obtain ⟨y0, y1, y2, y3, y4, y5, y6⟩ := box7 (q5.heap HB.out (by simp))
  obtain ⟨aa, n9, ac, rfl, hn9⟩ : ∃ a n9 c, va = .slice a n9 c ∧ (readA (beginA l s) nm.data.toList at_ n).1.length = n9 := by
    rcases ra.form with ⟨rfl, e⟩ | ⟨g, cap, rfl, _⟩
    · exact ⟨_, _, _, rfl, by rw [e]; rfl⟩
    · exact ⟨_, _, _, rfl, rfl⟩
  have hok : okA l s := by obtain ⟨_, _, D, _⟩ := H.out; exact D.ok
  have hn9b : n9 ≤ 1073741824 := by rw [← hn9]; exact readA_len (beginA_ok hok) _ _ _
  have H5 := hide (And.intro h5 (And.intro ra (And.intro fr hn9)))
  clear hok
  clear z0 z1 z2 z3 z4 z5 z6 h5 q5 ra fr hn9
  dsimp only
  go_wp2_with fail
  refine (Half.readAt H5.out.1 (by omega) nm at_ n HA0.out).mono ?_
  rintro e w6 ⟨vb, rfl, rb, h6, q6⟩
  obtain ⟨ba, bn, bc, rfl⟩ : ∃ a n9 c, vb = .slice a n9 c := by
    rcases rb.form with ⟨rfl, e⟩ | ⟨g, cap, rfl, _⟩
    · exact ⟨_, _, _, rfl⟩
    · exact ⟨_, _, _, rfl⟩
  have ra6 := H5.out.2.1.hld q6 (by simp +contextual)
  have X6 : (convert 28 9 (.slice aa n9 ac)).run Try.prog w6 = .ok (.string (strOfNums (readA (beginA l s) nm.data.toList at_ n).1)) w6 := conv_isB ra6.isB
  have Y6 : (convert 28 9 (.slice ba bn bc)).run Try.prog w6 = .ok (.string (strOfNums (readA (beginA l s) nm.data.toList at_ n).1)) w6 := conv_isB rb.isB
  have h7 : Half w w6 p r (own (.slice aa n9 ac)) (beginA l s) (beginA l s) := h6.less (by simp +contextual)
  have H6 : Hid (∃ bs : List Int, bs.length = n9 ∧ RowB w6 (.slice aa n9 ac) bs ∧ Half w w6 p r (own (.slice aa n9 ac)) (beginA l s) (beginA l s)) := ⟨_, H5.out.2.2.2, ra6, h7⟩
  have HFR := hide H5.out.2.2.1
  clear h6 q6 y0 y1 y2 y3 y4 y5 y6 rb ra6 h7 H5
  generalize strOfNums (readA (beginA l s) nm.data.toList at_ n).1 = str at X6 Y6
  generalize (readA (beginA l s) nm.data.toList at_ n).2 = code
  dsimp only
  go_wp2
  go_loopw [14] (fun i wr => ∃ k : Nat, i = .int .i64 k ∧ k ≤ n9 ∧ Hid (∃ bs : List Int, bs.length = n9 ∧ RowB wr (.slice aa n9 ac) bs ∧ Half w wr p r (own (.slice aa n9 ac)) (beginA l s) (beginA l s))) (fun i _ => n9 - (intOf i).toNat)
  case atStart => exact ⟨0, rfl, Nat.zero_le _, H6⟩
  case round =>
    obtain ⟨k, rfl, hk, HR⟩ := hrel
    by_cases hlt : k < n9
    · obtain ⟨bs, hbl, hrow, hhalf⟩ := HR.out
      obtain ⟨g, rfl⟩ : ∃ g, aa = some ⟨g, 0, none⟩ := by
        rcases hrow.form with ⟨e, _⟩ | ⟨g, cap, e, _⟩
        · simp only [Value.slice.injEq] at e; omega
        · simp only [Value.slice.injEq] at e; exact ⟨g, e.1⟩
      have hc : wr.cell? ⟨g, k, none⟩ = some (.int .u8 (bs[k]'(by omega))) := by
        have q := World.ownsRow.cells hrow.1 (g := g) rfl k (.int .u8 (bs[k]'(by omega))) (by simp)
        rw [Addr.add_lit, Nat.zero_add] at q
        exact q
      have hr1 := hrow.1
      rw [hbl] at hr1
      have hz := World.ownsRow.frozenAt hr1 k
      obtain ⟨W7, hW7⟩ : ∃ W7, W7 = wr.setCell ⟨g, k, none⟩ (.int .u8 99) := ⟨_, rfl⟩
      have NX : Hid (∃ bs : List Int, bs.length = n9 ∧ RowB W7 (.slice (some ⟨g, 0, none⟩) n9 ac) bs ∧ Half w W7 p r (own (.slice (some ⟨g, 0, none⟩) n9 ac)) (beginA l s) (beginA l s)) := by
        refine ⟨bs.set k 99, by rw [List.length_set]; exact hbl, by rw [hW7]; exact hrow.storedR k 99 (by omega), hhalf.touch (b := g) (by simp [own, Value.ownBlock]) ?_ (HFR.out g (by simp [own, Value.ownBlock]))⟩
        rw [hW7]
        exact (Kept.refl _ wr).setCell (p := ⟨g, k, none⟩) (.inl (by simp)) _
      have HW7 := hide hW7
      have hkn : (k : Int) < (n9 : Int) := by omega
      generalize bs[k]'(by omega) = zb at hc
      clear hrow hhalf hW7 hbl hr1
      go_wp2
      rw [← HW7.out]
      go_roundw
      case rel => exact ⟨k + 1, by go_num, by omega, NX⟩
      case measure => simp [intOf]; omega
    · obtain rfl : k = n9 := by omega
      go_wp2
      go_meet
      case rel =>
        obtain ⟨bs, hbl, hrow, hhalf⟩ := HR.out
        exact ⟨_, (beginA l s).1, (beginA l s).2, rfl, rfl, by rw [begin_ops]; omega, hhalf.less (by simp)⟩

end Go.Proofs.Ytahhokhhgamelaa
