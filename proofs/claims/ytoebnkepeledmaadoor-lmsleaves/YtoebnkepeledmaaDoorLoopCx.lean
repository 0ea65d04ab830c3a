/- The sixty-four steps of a chunk, in the reference's great loop. -/
import Derived.Test.YtoebnkepeledmaaDoorGg
namespace Go.Proofs.YtoebnkepeledmaaDoor
open Go.RowKit

set_option maxRecDepth 100000 in
set_option maxHeartbeats 4000000 in
theorem loop6 (w wr0 : World) (gk gs gt gw ga : Nat) (T L : List Int) (S : S8) (hl48 : L.length = 64) (h1 : gs ≠ ga) (h2 : gk ≠ ga) (h3 : gt ≠ ga) (h4 : w.heap.size < ga) (h5 : gw ≠ ga)
    (z0 : Row wr0 gs 100 S.row) (z1 : Row wr0 gw 98 (v32 L)) (z2 : Row wr0 ga 100 S.row) (z3 : RefEnv w gk gt T wr0) (Q : Exit → Act → World → Prop) (c0 c1 c2 c4 c5 c6 c7 c9 c10 c11 c12 c13 c14 c17 c18 c19 c20 c21 c22 c23 c24 c25 c26 c27 c28 c29 c30 c31 c32 c33 c34 c35 c36 c37 c38 c39 c40 c41 c42 c43 c44 c45 c46 c47 c48 c49 c50 c51 c52 c53 c54 c55 c56 c57 c58 c59 c60 c61 c62 c63 c64 c65 c66 c67 c68 c69 c70 c71 c72 c73 c74 c75 c76 c77 c78 c79 c80 c81 c82 c83 c84 c85 c86 c87 c88 c89 c90 c91 c92 c93 c94 c95 c96 c97 c98 c99 c100 c101 c102 c103 c104 c105 c106 c107 c108 c109 c110 c111 c112 c113 c114 c115 c116 c117 c118 c119 c120 c121 c122 c123 c124 c125 c126 c127 c128 c129 c130 c131 c132 c133 c134 c135 c136 c137 c138 c139 c140 c141 c142 c143 c144 c145 c146 c147 c148 c149 c150 c151 c152 c153 c154 c155 c156 c157 c158 c159 c160 c161 c162 c163 c164 c165 c166 c167 c168 c169 c170 c171 c172 c173 c174 c175 c176 c177 c178 c179 c180 c181 c182 c183 c184 c185 c186 c187 c188 c189 c190 c191 c192 c193 c194 c195 c196 c197 c198 c199 c200 c201 c202 c203 c204 c205 c206 c207 c208 c209 c210 c211 c212 c213 c214 c215 c216 c217 c218 c219 c220 c221 c222 c223 c224 c225 c226 c227 c228 c229 c230 c231 c232 c233 c234 c235 c236 c237 c238 c239 c240 c241 c242 c243 c244 c245 c246 c247 c248 c249 c250 c251 c252 c253 c254 c255 c256 c257 c258 c259 c260 c261 c262 c263 c264 c265 c266 c267 c268 c269 c270 c271 c272 c273 c274 c275 c276 c277 : Value)
    (hexit : ∀ (u16 u17 u18 u19 u142 u143 u144 u145 u146 u147 u148 u149 u150 u151 u152 u153 u154 u155 u156 u157 u158 u159 u160 u161 u162 u163 u164 u165 u166 u167 u168 u169 u170 u171 u172 u173 u174 u175 u176 u177 u178 u179 u180 u181 u182 u183 u184 u185 u186 u187 u188 u189 u190 u191 u192 u193 u194 u195 u196 u197 u198 u199 u200 u201 u202 u203 u204 u205 u206 u207 u208 u209 u210 u211 u212 u213 u214 u215 u216 u217 u218 u219 u220 u221 u222 u223 u224 u225 u226 : Value) (w' : World), Row w' gs 100 S.row → Row w' gw 98 (v32 L) → Row w' ga 100 (rnds kWords L S 64).row → RefEnv w gk gt T w' → Q (.exit 10) ⟨List.toArray (c0 :: c1 :: c2 :: .pointer (some ⟨gk, 0, none⟩) :: c4 :: c5 :: c6 :: c7 :: .pointer (some ⟨gw, 0, none⟩) :: c9 :: c10 :: c11 :: c12 :: c13 :: c14 :: .pointer (some ⟨ga, 0, none⟩) :: u16 :: u17 :: u18 :: u19 :: c20 :: c21 :: c22 :: c23 :: c24 :: c25 :: c26 :: c27 :: c28 :: c29 :: c30 :: c31 :: c32 :: c33 :: c34 :: c35 :: c36 :: c37 :: c38 :: c39 :: c40 :: c41 :: c42 :: c43 :: c44 :: c45 :: c46 :: c47 :: c48 :: c49 :: c50 :: c51 :: c52 :: c53 :: c54 :: c55 :: c56 :: c57 :: c58 :: c59 :: c60 :: c61 :: c62 :: c63 :: c64 :: c65 :: c66 :: c67 :: c68 :: c69 :: c70 :: c71 :: c72 :: c73 :: c74 :: c75 :: c76 :: c77 :: c78 :: c79 :: c80 :: c81 :: c82 :: c83 :: c84 :: c85 :: c86 :: c87 :: c88 :: c89 :: c90 :: c91 :: c92 :: c93 :: c94 :: c95 :: c96 :: c97 :: c98 :: c99 :: c100 :: c101 :: c102 :: c103 :: c104 :: c105 :: c106 :: c107 :: c108 :: c109 :: c110 :: c111 :: c112 :: c113 :: c114 :: c115 :: c116 :: c117 :: c118 :: c119 :: c120 :: c121 :: c122 :: c123 :: c124 :: c125 :: c126 :: c127 :: c128 :: c129 :: c130 :: c131 :: c132 :: c133 :: c134 :: c135 :: c136 :: c137 :: c138 :: c139 :: c140 :: c141 :: u142 :: u143 :: u144 :: u145 :: u146 :: u147 :: u148 :: u149 :: u150 :: u151 :: u152 :: u153 :: u154 :: u155 :: u156 :: u157 :: u158 :: u159 :: u160 :: u161 :: u162 :: u163 :: u164 :: u165 :: u166 :: u167 :: u168 :: u169 :: u170 :: u171 :: u172 :: u173 :: u174 :: u175 :: u176 :: u177 :: u178 :: u179 :: u180 :: u181 :: u182 :: u183 :: u184 :: u185 :: u186 :: u187 :: u188 :: u189 :: u190 :: u191 :: u192 :: u193 :: u194 :: u195 :: u196 :: u197 :: u198 :: u199 :: u200 :: u201 :: u202 :: u203 :: u204 :: u205 :: u206 :: u207 :: u208 :: u209 :: u210 :: u211 :: u212 :: u213 :: u214 :: u215 :: u216 :: u217 :: u218 :: u219 :: u220 :: u221 :: u222 :: u223 :: u224 :: u225 :: u226 :: c227 :: c228 :: c229 :: c230 :: c231 :: c232 :: c233 :: c234 :: c235 :: c236 :: c237 :: c238 :: c239 :: c240 :: c241 :: c242 :: c243 :: c244 :: c245 :: c246 :: c247 :: c248 :: c249 :: c250 :: c251 :: c252 :: c253 :: c254 :: c255 :: c256 :: c257 :: c258 :: c259 :: c260 :: c261 :: c262 :: c263 :: c264 :: c265 :: c266 :: c267 :: c268 :: c269 :: c270 :: c271 :: c272 :: c273 :: c274 :: c275 :: c276 :: c277 :: []), []⟩ w') :
    Code.wp Tryd.prog (.loop (((Tryd.f36.body.map loopsOf).getD []).getD 5 .skip)) Q ⟨List.toArray (c0 :: c1 :: c2 :: .pointer (some ⟨gk, 0, none⟩) :: c4 :: c5 :: c6 :: c7 :: .pointer (some ⟨gw, 0, none⟩) :: c9 :: c10 :: c11 :: c12 :: c13 :: c14 :: .pointer (some ⟨ga, 0, none⟩) :: .int .i64 0 :: c17 :: c18 :: c19 :: c20 :: c21 :: c22 :: c23 :: c24 :: c25 :: c26 :: c27 :: c28 :: c29 :: c30 :: c31 :: c32 :: c33 :: c34 :: c35 :: c36 :: c37 :: c38 :: c39 :: c40 :: c41 :: c42 :: c43 :: c44 :: c45 :: c46 :: c47 :: c48 :: c49 :: c50 :: c51 :: c52 :: c53 :: c54 :: c55 :: c56 :: c57 :: c58 :: c59 :: c60 :: c61 :: c62 :: c63 :: c64 :: c65 :: c66 :: c67 :: c68 :: c69 :: c70 :: c71 :: c72 :: c73 :: c74 :: c75 :: c76 :: c77 :: c78 :: c79 :: c80 :: c81 :: c82 :: c83 :: c84 :: c85 :: c86 :: c87 :: c88 :: c89 :: c90 :: c91 :: c92 :: c93 :: c94 :: c95 :: c96 :: c97 :: c98 :: c99 :: c100 :: c101 :: c102 :: c103 :: c104 :: c105 :: c106 :: c107 :: c108 :: c109 :: c110 :: c111 :: c112 :: c113 :: c114 :: c115 :: c116 :: c117 :: c118 :: c119 :: c120 :: c121 :: c122 :: c123 :: c124 :: c125 :: c126 :: c127 :: c128 :: c129 :: c130 :: c131 :: c132 :: c133 :: c134 :: c135 :: c136 :: c137 :: c138 :: c139 :: c140 :: c141 :: c142 :: c143 :: c144 :: c145 :: c146 :: c147 :: c148 :: c149 :: c150 :: c151 :: c152 :: c153 :: c154 :: c155 :: c156 :: c157 :: c158 :: c159 :: c160 :: c161 :: c162 :: c163 :: c164 :: c165 :: c166 :: c167 :: c168 :: c169 :: c170 :: c171 :: c172 :: c173 :: c174 :: c175 :: c176 :: c177 :: c178 :: c179 :: c180 :: c181 :: c182 :: c183 :: c184 :: c185 :: c186 :: c187 :: c188 :: c189 :: c190 :: c191 :: c192 :: c193 :: c194 :: c195 :: c196 :: c197 :: c198 :: c199 :: c200 :: c201 :: c202 :: c203 :: c204 :: c205 :: c206 :: c207 :: c208 :: c209 :: c210 :: c211 :: c212 :: c213 :: c214 :: c215 :: c216 :: c217 :: c218 :: c219 :: c220 :: c221 :: c222 :: c223 :: c224 :: c225 :: c226 :: c227 :: c228 :: c229 :: c230 :: c231 :: c232 :: c233 :: c234 :: c235 :: c236 :: c237 :: c238 :: c239 :: c240 :: c241 :: c242 :: c243 :: c244 :: c245 :: c246 :: c247 :: c248 :: c249 :: c250 :: c251 :: c252 :: c253 :: c254 :: c255 :: c256 :: c257 :: c258 :: c259 :: c260 :: c261 :: c262 :: c263 :: c264 :: c265 :: c266 :: c267 :: c268 :: c269 :: c270 :: c271 :: c272 :: c273 :: c274 :: c275 :: c276 :: c277 :: []), []⟩ wr0 := by
  conv => arg 2; arg 1; whnf
  have i36 : ∀ s : S8, (Tryd.prog.info? 100).map (·.size) = some s.row.size := fun s => by rw [S8.row_size]; kernel_rfl
  go_loopw [16] (fun i wr => ∃ k : Nat, k ≤ 64 ∧ i = .int .i64 k ∧ Row wr (gs) 100 S.row ∧ Row wr gw 98 (v32 L) ∧ Row wr ga 100 (rnds kWords L S k).row ∧ RefEnv w gk gt T wr) (fun i _ => 64 - (intOf i).toNat)
  case atStart => exact ⟨0, by omega, rfl, z0, z1, z2, z3⟩
  case round =>
    clear z0 z1 z2 z3
    obtain ⟨k, hk, rfl, z0, z1, z2, z3⟩ := hrel
    obtain ⟨A, hA⟩ : ∃ A, A = rnds kWords L S k := ⟨_, rfl⟩
    rw [← hA] at z2
    have HA : Hid (A = rnds kWords L S k) := hA
    clear hA
    by_cases hlt6 : k < 64
    · clear hexit
      have a0 : wr.cell? ⟨ga, 0, none⟩ = some (.int .u32 A.a) := z2.cell
      have a1 : wr.cell? ⟨ga, 1, none⟩ = some (.int .u32 A.b) := z2.cell
      have a2 : wr.cell? ⟨ga, 2, none⟩ = some (.int .u32 A.c) := z2.cell
      have a3 : wr.cell? ⟨ga, 3, none⟩ = some (.int .u32 A.d) := z2.cell
      have a4 : wr.cell? ⟨ga, 4, none⟩ = some (.int .u32 A.e) := z2.cell
      have a5 : wr.cell? ⟨ga, 5, none⟩ = some (.int .u32 A.f) := z2.cell
      have a6 : wr.cell? ⟨ga, 6, none⟩ = some (.int .u32 A.g) := z2.cell
      have a7 : wr.cell? ⟨ga, 7, none⟩ = some (.int .u32 A.h) := z2.cell
      have k0 : wr.cell? ⟨gk, k, none⟩ = some (.int .u32 (gi kWords k)) := z3.1.cell32 (by rw [kWords_length]; omega)
      have k1 : wr.cell? ⟨gw, k, none⟩ = some (.int .u32 (gi L k)) := z1.cell32 (by omega)
      go_wp2
      go_quiet ((go_at_call 61; exact Calls.quiet_of_same (rot_c _ _ _ (by decide) (by decide))))
      have eX : ((A.h + bits BinOp.xor IntKind.u32 (bits BinOp.xor IntKind.u32 (rotr 6 A.e) (rotr 11 A.e)) (rotr 25 A.e) + bits BinOp.xor IntKind.u32 (bits BinOp.and IntKind.u32 A.e A.f) (bits BinOp.and IntKind.u32 (bits BinOp.xor IntKind.u32 (if IntKind.u32.signed = true then -1 else IntKind.u32.max) A.e) A.g) + gi kWords k) % 4294967296 + gi L k) % 4294967296 = rndP A (gi kWords k) (gi L k) := by
        rw [Int.emod_add_emod]; rfl
      rw [eX]
      clear eX
      have e0 : (wr.drewN nq).cell? ⟨ga, 0, none⟩ = some (.int .u32 A.a) := a0
      have e1 : (wr.drewN nq).cell? ⟨ga, 1, none⟩ = some (.int .u32 A.b) := a1
      have e2 : (wr.drewN nq).cell? ⟨ga, 2, none⟩ = some (.int .u32 A.c) := a2
      have e3 : (wr.drewN nq).cell? ⟨ga, 3, none⟩ = some (.int .u32 A.d) := a3
      have e4 : (wr.drewN nq).cell? ⟨ga, 4, none⟩ = some (.int .u32 A.e) := a4
      have e5 : (wr.drewN nq).cell? ⟨ga, 5, none⟩ = some (.int .u32 A.f) := a5
      have e6 : (wr.drewN nq).cell? ⟨ga, 6, none⟩ = some (.int .u32 A.g) := a6
      have e7 : (wr.drewN nq).cell? ⟨ga, 7, none⟩ = some (.int .u32 A.h) := a7
      have y0 := z0.drewN nq
      have y1 := z1.drewN nq
      have y2 := z2.drewN nq
      have y3 := z3.drewN nq
      generalize wr.drewN nq = wd at e0 e1 e2 e3 e4 e5 e6 e7 y0 y1 y2 y3 ⊢
      clear a0 a1 a2 a3 a4 a5 a6 a7 k0 k1 z0 z1 z2 z3
      go_wp2
      go_quiet ((go_at_call 61; exact Calls.quiet_of_same (rot_c _ _ _ (by decide) (by decide))))
      have eQ : (bits BinOp.xor IntKind.u32 (bits BinOp.xor IntKind.u32 (rotr 2 A.a) (rotr 13 A.a)) (rotr 22 A.a) + bits BinOp.xor IntKind.u32 (bits BinOp.xor IntKind.u32 (bits BinOp.and IntKind.u32 A.a A.b) (bits BinOp.and IntKind.u32 A.a A.c)) (bits BinOp.and IntKind.u32 A.b A.c)) % 4294967296 = rndQ A := rfl
      rw [eQ]
      clear eQ
      go_wp2_with (refine store_row0 100 (.tmp 15) (.tmp 226) (by rfl) (by rfl) (by rfl) ga (rnd A (gi kWords k) (gi L k)).row (by rfl) (by rfl) 100 _ (y2.drewN nq) (i36 _) rfl (S8.row_one _) ?_)
      go_roundw
      case rel =>
        refine ⟨k + 1, by omega, by go_num, (y0.drewN _).setRowOther (by omega) _, (y1.drewN _).setRowOther (by omega) _, ?_, (y3.drewN _).setRow (by omega) (by omega) (by omega) _⟩
        rw [show rnds kWords L S (k + 1) = rnd A (gi kWords k) (gi L k) by rw [HA.out]; rfl]
        exact (y2.drewN _).setRow _
      case measure => simp [intOf]; omega
    · obtain rfl : k = 64 := by omega
      have HX := (show Hid _ from hexit)
      clear hexit
      go_wp2
      rw [HA.out] at z2
      exact HX.out _ _ _ _ _ _ _ _ _ _ _ _ _ _ _ _ _ _ _ _ _ _ _ _ _ _ _ _ _ _ _ _ _ _ _ _ _ _ _ _ _ _ _ _ _ _ _ _ _ _ _ _ _ _ _ _ _ _ _ _ _ _ _ _ _ _ _ _ _ _ _ _ _ _ _ _ _ _ _ _ _ _ _ _ _ _ _ _ _ wr z0 z1 z2 z3
end Go.Proofs.YtoebnkepeledmaaDoor
