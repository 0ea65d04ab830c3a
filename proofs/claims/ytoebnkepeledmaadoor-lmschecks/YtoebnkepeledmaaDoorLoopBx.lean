/- The other forty-eight words of a chunk, in the reference's great loop. -/
import Derived.Test.YtoebnkepeledmaaDoorGg
namespace Go.Proofs.YtoebnkepeledmaaDoor
open Go.RowKit

set_option maxRecDepth 100000 in
set_option maxHeartbeats 4000000 in
theorem loop5 (w wr0 : World) (gk gs gt gw : Nat) (T C lw : List Int) (S : S8) (hlw : lw.length = 64) (h1 : gs ≠ gw) (h2 : gk ≠ gw) (h3 : gt ≠ gw) (h4 : w.heap.size < gw)
    (rs : Row wr0 gs 100 S.row) (rw0 : Row wr0 gw 98 (v32 (sch16 C lw 16))) (env : RefEnv w gk gt T wr0) (Q : Exit → Act → World → Prop) (c0 c1 c2 c3 c4 c5 c6 c7 c9 c10 c11 c13 c14 c15 c16 c17 c18 c19 c20 c21 c22 c23 c24 c25 c26 c27 c28 c29 c30 c31 c32 c33 c34 c35 c36 c37 c38 c39 c40 c41 c42 c43 c44 c45 c46 c47 c48 c49 c50 c51 c52 c53 c54 c55 c56 c57 c58 c59 c60 c61 c62 c63 c64 c65 c66 c67 c68 c69 c70 c71 c72 c73 c74 c75 c76 c77 c78 c79 c80 c81 c82 c83 c84 c85 c86 c87 c88 c89 c90 c91 c92 c93 c94 c95 c96 c97 c98 c99 c100 c101 c102 c103 c104 c105 c106 c107 c108 c109 c110 c111 c112 c113 c114 c115 c116 c117 c118 c119 c120 c121 c122 c123 c124 c125 c126 c127 c128 c129 c130 c131 c132 c133 c134 c135 c136 c137 c138 c139 c140 c141 c142 c143 c144 c145 c146 c147 c148 c149 c150 c151 c152 c153 c154 c155 c156 c157 c158 c159 c160 c161 c162 c163 c164 c165 c166 c167 c168 c169 c170 c171 c172 c173 c174 c175 c176 c177 c178 c179 c180 c181 c182 c183 c184 c185 c186 c187 c188 c189 c190 c191 c192 c193 c194 c195 c196 c197 c198 c199 c200 c201 c202 c203 c204 c205 c206 c207 c208 c209 c210 c211 c212 c213 c214 c215 c216 c217 c218 c219 c220 c221 c222 c223 c224 c225 c226 c227 c228 c229 c230 c231 c232 c233 c234 c235 c236 c237 c238 c239 c240 c241 c242 c243 c244 c245 c246 c247 c248 c249 c250 c251 c252 c253 c254 c255 c256 c257 c258 c259 c260 c261 c262 c263 c264 c265 c266 c267 c268 c269 c270 c271 c272 c273 c274 c275 c276 c277 : Value)
    (hexit : ∀ (u12 u13 u14 u100 u101 u102 u103 u104 u105 u106 u107 u108 u109 u110 u111 u112 u113 u114 u115 u116 u117 u118 u119 u120 u121 u122 u123 u124 u125 u126 u127 u128 u129 u130 u131 u132 u133 u134 u135 u136 u137 u138 u139 u140 : Value) (w' : World), Row w' gs 100 S.row → Row w' gw 98 (v32 (sch48 C lw 48)) → RefEnv w gk gt T w' → Q (.exit 8) ⟨List.toArray (c0 :: c1 :: c2 :: c3 :: c4 :: c5 :: c6 :: c7 :: .pointer (some ⟨gw, 0, none⟩) :: c9 :: c10 :: c11 :: u12 :: u13 :: u14 :: c15 :: c16 :: c17 :: c18 :: c19 :: c20 :: c21 :: c22 :: c23 :: c24 :: c25 :: c26 :: c27 :: c28 :: c29 :: c30 :: c31 :: c32 :: c33 :: c34 :: c35 :: c36 :: c37 :: c38 :: c39 :: c40 :: c41 :: c42 :: c43 :: c44 :: c45 :: c46 :: c47 :: c48 :: c49 :: c50 :: c51 :: c52 :: c53 :: c54 :: c55 :: c56 :: c57 :: c58 :: c59 :: c60 :: c61 :: c62 :: c63 :: c64 :: c65 :: c66 :: c67 :: c68 :: c69 :: c70 :: c71 :: c72 :: c73 :: c74 :: c75 :: c76 :: c77 :: c78 :: c79 :: c80 :: c81 :: c82 :: c83 :: c84 :: c85 :: c86 :: c87 :: c88 :: c89 :: c90 :: c91 :: c92 :: c93 :: c94 :: c95 :: c96 :: c97 :: c98 :: c99 :: u100 :: u101 :: u102 :: u103 :: u104 :: u105 :: u106 :: u107 :: u108 :: u109 :: u110 :: u111 :: u112 :: u113 :: u114 :: u115 :: u116 :: u117 :: u118 :: u119 :: u120 :: u121 :: u122 :: u123 :: u124 :: u125 :: u126 :: u127 :: u128 :: u129 :: u130 :: u131 :: u132 :: u133 :: u134 :: u135 :: u136 :: u137 :: u138 :: u139 :: u140 :: c141 :: c142 :: c143 :: c144 :: c145 :: c146 :: c147 :: c148 :: c149 :: c150 :: c151 :: c152 :: c153 :: c154 :: c155 :: c156 :: c157 :: c158 :: c159 :: c160 :: c161 :: c162 :: c163 :: c164 :: c165 :: c166 :: c167 :: c168 :: c169 :: c170 :: c171 :: c172 :: c173 :: c174 :: c175 :: c176 :: c177 :: c178 :: c179 :: c180 :: c181 :: c182 :: c183 :: c184 :: c185 :: c186 :: c187 :: c188 :: c189 :: c190 :: c191 :: c192 :: c193 :: c194 :: c195 :: c196 :: c197 :: c198 :: c199 :: c200 :: c201 :: c202 :: c203 :: c204 :: c205 :: c206 :: c207 :: c208 :: c209 :: c210 :: c211 :: c212 :: c213 :: c214 :: c215 :: c216 :: c217 :: c218 :: c219 :: c220 :: c221 :: c222 :: c223 :: c224 :: c225 :: c226 :: c227 :: c228 :: c229 :: c230 :: c231 :: c232 :: c233 :: c234 :: c235 :: c236 :: c237 :: c238 :: c239 :: c240 :: c241 :: c242 :: c243 :: c244 :: c245 :: c246 :: c247 :: c248 :: c249 :: c250 :: c251 :: c252 :: c253 :: c254 :: c255 :: c256 :: c257 :: c258 :: c259 :: c260 :: c261 :: c262 :: c263 :: c264 :: c265 :: c266 :: c267 :: c268 :: c269 :: c270 :: c271 :: c272 :: c273 :: c274 :: c275 :: c276 :: c277 :: []), []⟩ w') :
    Code.wp Tryd.prog (.loop (((Tryd.f36.body.map loopsOf).getD []).getD 4 .skip)) Q ⟨List.toArray (c0 :: c1 :: c2 :: c3 :: c4 :: c5 :: c6 :: c7 :: .pointer (some ⟨gw, 0, none⟩) :: c9 :: c10 :: c11 :: .int .i64 16 :: c13 :: c14 :: c15 :: c16 :: c17 :: c18 :: c19 :: c20 :: c21 :: c22 :: c23 :: c24 :: c25 :: c26 :: c27 :: c28 :: c29 :: c30 :: c31 :: c32 :: c33 :: c34 :: c35 :: c36 :: c37 :: c38 :: c39 :: c40 :: c41 :: c42 :: c43 :: c44 :: c45 :: c46 :: c47 :: c48 :: c49 :: c50 :: c51 :: c52 :: c53 :: c54 :: c55 :: c56 :: c57 :: c58 :: c59 :: c60 :: c61 :: c62 :: c63 :: c64 :: c65 :: c66 :: c67 :: c68 :: c69 :: c70 :: c71 :: c72 :: c73 :: c74 :: c75 :: c76 :: c77 :: c78 :: c79 :: c80 :: c81 :: c82 :: c83 :: c84 :: c85 :: c86 :: c87 :: c88 :: c89 :: c90 :: c91 :: c92 :: c93 :: c94 :: c95 :: c96 :: c97 :: c98 :: c99 :: c100 :: c101 :: c102 :: c103 :: c104 :: c105 :: c106 :: c107 :: c108 :: c109 :: c110 :: c111 :: c112 :: c113 :: c114 :: c115 :: c116 :: c117 :: c118 :: c119 :: c120 :: c121 :: c122 :: c123 :: c124 :: c125 :: c126 :: c127 :: c128 :: c129 :: c130 :: c131 :: c132 :: c133 :: c134 :: c135 :: c136 :: c137 :: c138 :: c139 :: c140 :: c141 :: c142 :: c143 :: c144 :: c145 :: c146 :: c147 :: c148 :: c149 :: c150 :: c151 :: c152 :: c153 :: c154 :: c155 :: c156 :: c157 :: c158 :: c159 :: c160 :: c161 :: c162 :: c163 :: c164 :: c165 :: c166 :: c167 :: c168 :: c169 :: c170 :: c171 :: c172 :: c173 :: c174 :: c175 :: c176 :: c177 :: c178 :: c179 :: c180 :: c181 :: c182 :: c183 :: c184 :: c185 :: c186 :: c187 :: c188 :: c189 :: c190 :: c191 :: c192 :: c193 :: c194 :: c195 :: c196 :: c197 :: c198 :: c199 :: c200 :: c201 :: c202 :: c203 :: c204 :: c205 :: c206 :: c207 :: c208 :: c209 :: c210 :: c211 :: c212 :: c213 :: c214 :: c215 :: c216 :: c217 :: c218 :: c219 :: c220 :: c221 :: c222 :: c223 :: c224 :: c225 :: c226 :: c227 :: c228 :: c229 :: c230 :: c231 :: c232 :: c233 :: c234 :: c235 :: c236 :: c237 :: c238 :: c239 :: c240 :: c241 :: c242 :: c243 :: c244 :: c245 :: c246 :: c247 :: c248 :: c249 :: c250 :: c251 :: c252 :: c253 :: c254 :: c255 :: c256 :: c257 :: c258 :: c259 :: c260 :: c261 :: c262 :: c263 :: c264 :: c265 :: c266 :: c267 :: c268 :: c269 :: c270 :: c271 :: c272 :: c273 :: c274 :: c275 :: c276 :: c277 :: []), []⟩ wr0 := by
  conv => arg 2; arg 1; whnf
  go_loopw [12] (fun i wr => ∃ q : Nat, 16 ≤ q ∧ q ≤ 64 ∧ i = .int .i64 q ∧ Row wr (gs) 100 S.row ∧ Row wr gw 98 (v32 (sch48 C lw (q - 16))) ∧ RefEnv w gk gt T wr) (fun i _ => 64 - (intOf i).toNat)
  case atStart => exact ⟨16, by omega, by omega, rfl, rs, rw0, env⟩
  case round =>
    clear rs rw0 env
    obtain ⟨q, hq, hq', rfl, rs, rw0, env⟩ := hrel
    by_cases hlt5 : q < 64
    · clear hexit
      have hl48 := sch48_length (C := C) hlw (q - 16)
      obtain ⟨L, hL⟩ : ∃ L, L = sch48 C lw (q - 16) := ⟨_, rfl⟩
      rw [← hL] at rw0 hl48
      have HL : Hid (L = sch48 C lw (q - 16)) := hL
      clear hL
      have b0 : wr.cell? ⟨gw, q - 2, none⟩ = some (.int .u32 (gi L (q - 2))) := rw0.cell32 (by omega)
      have b1 : wr.cell? ⟨gw, q - 7, none⟩ = some (.int .u32 (gi L (q - 7))) := rw0.cell32 (by omega)
      have b2 : wr.cell? ⟨gw, q - 15, none⟩ = some (.int .u32 (gi L (q - 15))) := rw0.cell32 (by omega)
      have b3 : wr.cell? ⟨gw, q - 16, none⟩ = some (.int .u32 (gi L (q - 16))) := rw0.cell32 (by omega)
      obtain ⟨v, hv⟩ : ∃ v, wr.cell? ⟨gw, q, none⟩ = some v := ⟨_, rw0.cell32 (by omega)⟩
      have hf : wr.frozen? ⟨gw, q, none⟩ = false := rw0.frozen
      go_wp2
      go_quiet (fail)
      have d1 : (wr.drewN nq).cell? ⟨gw, q - 7, none⟩ = some (.int .u32 (gi L (q - 7))) := b1
      have d3 : (wr.drewN nq).cell? ⟨gw, q - 16, none⟩ = some (.int .u32 (gi L (q - 16))) := b3
      have dv : (wr.drewN nq).cell? ⟨gw, q, none⟩ = some v := hv
      have df : (wr.drewN nq).frozen? ⟨gw, q, none⟩ = false := hf
      have drs := rs.drewN nq
      have drw := rw0.drewN nq
      have denv := env.drewN nq
      generalize wr.drewN nq = wd at d1 d3 dv df drs drw denv ⊢
      clear b0 b1 b2 b3 hv hf rs rw0 env
      go_wp2
      refine wp_region_quiet_tail 29 (by kernel_rfl) (by kernel_rfl) ?_
      simp only [List.take_succ_cons, List.take_zero, List.drop_succ_cons, List.drop_zero]
      repeat (go_big_quiet_step ((go_at_call 61; exact Calls.quiet_of_same (rot_c _ _ _ (by decide) (by decide)))))
      refine wpQuiet_nil ?_
      rintro _ ⟨nr, rfl⟩
      go_wp2
      go_roundw
      case rel =>
        refine ⟨q + 1, by omega, by omega, by go_num, (drs.drewN nr).setOther (by show gs ≠ gw; omega) _, ?_, (denv.drewN nr).setCell (by omega) (by omega) (by omega) _ _⟩
        have := (drw.drewN nr).set32 q ((ssig1 (gi L (q - 2)) + gi L (q - 7) + ssig0 (gi L (q - 15)) + gi L (q - 16)) % 4294967296)
        rw [show q + 1 - 16 = (q - 16) + 1 by omega, sch48_succ, show 16 + (q - 16) = q by omega, ← HL.out]
        exact this
      case measure => simp [intOf]; omega
    · obtain rfl : q = 64 := by omega
      have HX := (show Hid _ from hexit)
      clear hexit
      go_wp2
      exact HX.out _ _ _ _ _ _ _ _ _ _ _ _ _ _ _ _ _ _ _ _ _ _ _ _ _ _ _ _ _ _ _ _ _ _ _ _ _ _ _ _ _ _ _ _ wr rs rw0 env
end Go.Proofs.YtoebnkepeledmaaDoor
