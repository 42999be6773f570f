/- A loop of the document's Decode. -/
import Derived.Test.YtnoailihkjccbaaDoorG7
set_option linter.all false
namespace Go.Proofs.YtnoailihkjccbaaDoor
open Go.RowKit
open Bi Lv Bt B7

set_option maxHeartbeats 2000000 in
set_option maxRecDepth 100000 in
theorem rd910 (m : Md) (A : Option Addr) (c : Nat) (xs : List Nat) (w w0 : World) (gs g59 g6 g4 g2 n : Nat) (g24 g25 k1 p wy : Nat) (S : List Int) (hok : Ok m k1) (hwy : wy < 64) (hp : p + (16 * m.F - m.P) ≤ 128) (K0 : Act → World → Prop) (u1 u3 u5 u9 u10 u12 u13 u14 u15 u16 u17 u18 u19 u20 u21 u22 u23 u27 u28 u29 u30 u31 u32 u33 u34 u35 u36 u37 u38 u39 u40 u41 u42 u43 u44 u45 u46 u47 u48 u49 u50 u51 u52 u53 u54 u55 u56 u57 u58 u59 u60 u61 u62 u63 u64 u65 u66 u67 u68 u69 u70 u71 u72 u73 u74 u75 u76 u77 u78 u79 u80 u81 u82 u83 u84 u85 u86 u87 u88 u89 u90 u91 u92 u93 u94 u95 u96 u97 u98 u99 u100 u101 u102 u103 u104 u105 u106 u107 u108 u109 u110 u111 u112 u113 u114 u115 u116 u117 u118 u119 u120 u121 u122 u123 u124 u125 u126 u127 u128 u129 u130 u131 u132 u133 u134 u135 u136 u137 u138 u139 u140 u141 u142 u143 u144 u145 u146 u147 u148 u149 u150 u151 u152 u153 u154 u155 u156 u157 u158 u159 u160 u161 u162 u163 u164 u165 u166 u167 u168 u169 u170 u171 u172 u173 u174 u175 u176 u177 u178 u179 u180 u181 u182 u183 u184 u185 u186 u187 u188 u189 u190 u191 u192 u193 u194 u195 u196 u197 u198 u199 u200 u201 u202 u203 u204 u205 u206 u207 u208 u209 u210 u211 u212 u213 u214 u215 u216 u217 u218 u219 u220 u221 u222 u223 u224 u225 u226 u227 u228 u229 u230 u231 u232 u233 u234 u235 u236 u237 u238 u239 u240 u241 u242 u243 u244 u245 u246 u247 u248 u249 u250 u251 u252 u253 u254 u255 u256 u257 u258 u259 u260 u261 u262 u263 u264 u265 u266 u267 u268 u269 u270 u271 u272 u273 u274 u275 u276 u277 u278 u279 u280 u281 u282 u283 u284 u285 u286 u287 u288 u289 u290 u291 u292 u293 u294 u295 u296 u297 u298 u299 u300 u301 u302 u303 u304 u305 u306 u307 u308 u309 u310 u311 u312 u313 u314 u315 u316 u317 u318 u319 u320 u321 u322 u323 u324 u325 u326 u327 u328 u329 u330 u331 u332 u333 u334 u335 u336 u337 u338 u339 u340 u341 u342 u343 u344 u345 u346 u347 u348 u349 u350 u351 u352 u353 u354 u355 u356 u357 u358 u359 u360 u361 u362 u363 u364 u365 u366 u367 : Value)
    (hexit : ∀ (v26 v27 v28 v223 v224 v225 v226 v227 v228 v229 v230 v231 v232 v233 v234 v235 v236 v237 v238 v239 v240 v241 v242 v243 v244 v245 v246 v247 v248 v249 : Value) (wz : World), Hid (Kn w [.row g25 35 (i64s (Bc.z16)), .row g24 35 (i64s (ixP xs p m.F (isA m.P wy) 16)), .row gs 25 (i64s S), .row g59 59 [.slice A 16 c, .int .i64 ((ipos p m.F (isA m.P wy) 16 : Nat) : Int)], .row g6 54 [.int .i64 (m.P : Int), .int .i64 (m.W : Int), .int .i64 (m.T : Int), .int .i64 (m.C : Int), .int .i64 (m.L : Int), .int .i64 (m.A : Int), .int .i64 (m.E : Int), .int .i64 (m.O : Int), .int .i64 (m.F : Int), .int .i64 (m.S : Int)], .row g4 27 (i64s Bc.z64), .row g2 27 (i64s Bc.z64)] [bsF A 16 xs] wz) → K0 ⟨List.toArray ((.slice A 16 c) :: u1 :: (.pointer (some ⟨g2, 0, none⟩)) :: u3 :: (.pointer (some ⟨g4, 0, none⟩)) :: u5 :: (.pointer (some ⟨g6, 0, none⟩)) :: (.pointer (some ⟨g59, 0, none⟩)) :: (.int .i64 (wy : Int)) :: u9 :: u10 :: (.slice (some ⟨gs, 0, none⟩) n n) :: u12 :: u13 :: u14 :: u15 :: u16 :: u17 :: u18 :: u19 :: u20 :: u21 :: u22 :: u23 :: (.pointer (some ⟨g24, 0, none⟩)) :: (.pointer (some ⟨g25, 0, none⟩)) :: v26 :: v27 :: v28 :: u29 :: u30 :: u31 :: u32 :: u33 :: u34 :: u35 :: u36 :: u37 :: u38 :: u39 :: u40 :: u41 :: u42 :: u43 :: u44 :: u45 :: u46 :: u47 :: u48 :: u49 :: u50 :: u51 :: u52 :: u53 :: u54 :: u55 :: u56 :: u57 :: u58 :: u59 :: u60 :: u61 :: u62 :: u63 :: u64 :: u65 :: u66 :: u67 :: u68 :: u69 :: u70 :: u71 :: u72 :: u73 :: u74 :: u75 :: u76 :: u77 :: u78 :: u79 :: u80 :: u81 :: u82 :: u83 :: u84 :: u85 :: u86 :: u87 :: u88 :: u89 :: u90 :: u91 :: u92 :: u93 :: u94 :: u95 :: u96 :: u97 :: u98 :: u99 :: u100 :: u101 :: u102 :: u103 :: u104 :: u105 :: u106 :: u107 :: u108 :: u109 :: u110 :: u111 :: u112 :: u113 :: u114 :: u115 :: u116 :: u117 :: u118 :: u119 :: u120 :: u121 :: u122 :: u123 :: u124 :: u125 :: u126 :: u127 :: u128 :: u129 :: u130 :: u131 :: u132 :: u133 :: u134 :: u135 :: u136 :: u137 :: u138 :: u139 :: u140 :: u141 :: u142 :: u143 :: u144 :: u145 :: u146 :: u147 :: u148 :: u149 :: u150 :: u151 :: u152 :: u153 :: u154 :: u155 :: u156 :: u157 :: u158 :: u159 :: u160 :: u161 :: u162 :: u163 :: u164 :: u165 :: u166 :: u167 :: u168 :: u169 :: u170 :: u171 :: u172 :: u173 :: u174 :: u175 :: u176 :: u177 :: u178 :: u179 :: u180 :: u181 :: u182 :: u183 :: u184 :: u185 :: u186 :: u187 :: u188 :: u189 :: u190 :: u191 :: u192 :: u193 :: u194 :: u195 :: u196 :: u197 :: u198 :: u199 :: u200 :: u201 :: u202 :: u203 :: u204 :: u205 :: u206 :: u207 :: u208 :: u209 :: u210 :: u211 :: u212 :: u213 :: u214 :: u215 :: u216 :: u217 :: u218 :: u219 :: u220 :: u221 :: u222 :: v223 :: v224 :: v225 :: v226 :: v227 :: v228 :: v229 :: v230 :: v231 :: v232 :: v233 :: v234 :: v235 :: v236 :: v237 :: v238 :: v239 :: v240 :: v241 :: v242 :: v243 :: v244 :: v245 :: v246 :: v247 :: v248 :: v249 :: u250 :: u251 :: u252 :: u253 :: u254 :: u255 :: u256 :: u257 :: u258 :: u259 :: u260 :: u261 :: u262 :: u263 :: u264 :: u265 :: u266 :: u267 :: u268 :: u269 :: u270 :: u271 :: u272 :: u273 :: u274 :: u275 :: u276 :: u277 :: u278 :: u279 :: u280 :: u281 :: u282 :: u283 :: u284 :: u285 :: u286 :: u287 :: u288 :: u289 :: u290 :: u291 :: u292 :: u293 :: u294 :: u295 :: u296 :: u297 :: u298 :: u299 :: u300 :: u301 :: u302 :: u303 :: u304 :: u305 :: u306 :: u307 :: u308 :: u309 :: u310 :: u311 :: u312 :: u313 :: u314 :: u315 :: u316 :: u317 :: u318 :: u319 :: u320 :: u321 :: u322 :: u323 :: u324 :: u325 :: u326 :: u327 :: u328 :: u329 :: u330 :: u331 :: u332 :: u333 :: u334 :: u335 :: u336 :: u337 :: u338 :: u339 :: u340 :: u341 :: u342 :: u343 :: u344 :: u345 :: u346 :: u347 :: u348 :: u349 :: u350 :: u351 :: u352 :: u353 :: u354 :: u355 :: u356 :: u357 :: u358 :: u359 :: u360 :: u361 :: u362 :: u363 :: u364 :: u365 :: u366 :: u367 :: []), []⟩ wz)
    (E : Hid (Kn w [.row g25 35 (i64s (Bc.z16)), .row g24 35 (i64s (Bc.z16)), .row gs 25 (i64s S), .row g59 59 [.slice A 16 c, .int .i64 ((p : Nat) : Int)], .row g6 54 [.int .i64 (m.P : Int), .int .i64 (m.W : Int), .int .i64 (m.T : Int), .int .i64 (m.C : Int), .int .i64 (m.L : Int), .int .i64 (m.A : Int), .int .i64 (m.E : Int), .int .i64 (m.O : Int), .int .i64 (m.F : Int), .int .i64 (m.S : Int)], .row g4 27 (i64s Bc.z64), .row g2 27 (i64s Bc.z64)] [bsF A 16 xs] w0)) :
    Code.wp Tryd.prog (lp9 8) (onlyExit 16 K0) ⟨List.toArray ((.slice A 16 c) :: u1 :: (.pointer (some ⟨g2, 0, none⟩)) :: u3 :: (.pointer (some ⟨g4, 0, none⟩)) :: u5 :: (.pointer (some ⟨g6, 0, none⟩)) :: (.pointer (some ⟨g59, 0, none⟩)) :: (.int .i64 (wy : Int)) :: u9 :: u10 :: (.slice (some ⟨gs, 0, none⟩) n n) :: u12 :: u13 :: u14 :: u15 :: u16 :: u17 :: u18 :: u19 :: u20 :: u21 :: u22 :: u23 :: (.pointer (some ⟨g24, 0, none⟩)) :: (.pointer (some ⟨g25, 0, none⟩)) :: (.int .i64 0) :: u27 :: u28 :: u29 :: u30 :: u31 :: u32 :: u33 :: u34 :: u35 :: u36 :: u37 :: u38 :: u39 :: u40 :: u41 :: u42 :: u43 :: u44 :: u45 :: u46 :: u47 :: u48 :: u49 :: u50 :: u51 :: u52 :: u53 :: u54 :: u55 :: u56 :: u57 :: u58 :: u59 :: u60 :: u61 :: u62 :: u63 :: u64 :: u65 :: u66 :: u67 :: u68 :: u69 :: u70 :: u71 :: u72 :: u73 :: u74 :: u75 :: u76 :: u77 :: u78 :: u79 :: u80 :: u81 :: u82 :: u83 :: u84 :: u85 :: u86 :: u87 :: u88 :: u89 :: u90 :: u91 :: u92 :: u93 :: u94 :: u95 :: u96 :: u97 :: u98 :: u99 :: u100 :: u101 :: u102 :: u103 :: u104 :: u105 :: u106 :: u107 :: u108 :: u109 :: u110 :: u111 :: u112 :: u113 :: u114 :: u115 :: u116 :: u117 :: u118 :: u119 :: u120 :: u121 :: u122 :: u123 :: u124 :: u125 :: u126 :: u127 :: u128 :: u129 :: u130 :: u131 :: u132 :: u133 :: u134 :: u135 :: u136 :: u137 :: u138 :: u139 :: u140 :: u141 :: u142 :: u143 :: u144 :: u145 :: u146 :: u147 :: u148 :: u149 :: u150 :: u151 :: u152 :: u153 :: u154 :: u155 :: u156 :: u157 :: u158 :: u159 :: u160 :: u161 :: u162 :: u163 :: u164 :: u165 :: u166 :: u167 :: u168 :: u169 :: u170 :: u171 :: u172 :: u173 :: u174 :: u175 :: u176 :: u177 :: u178 :: u179 :: u180 :: u181 :: u182 :: u183 :: u184 :: u185 :: u186 :: u187 :: u188 :: u189 :: u190 :: u191 :: u192 :: u193 :: u194 :: u195 :: u196 :: u197 :: u198 :: u199 :: u200 :: u201 :: u202 :: u203 :: u204 :: u205 :: u206 :: u207 :: u208 :: u209 :: u210 :: u211 :: u212 :: u213 :: u214 :: u215 :: u216 :: u217 :: u218 :: u219 :: u220 :: u221 :: u222 :: u223 :: u224 :: u225 :: u226 :: u227 :: u228 :: u229 :: u230 :: u231 :: u232 :: u233 :: u234 :: u235 :: u236 :: u237 :: u238 :: u239 :: u240 :: u241 :: u242 :: u243 :: u244 :: u245 :: u246 :: u247 :: u248 :: u249 :: u250 :: u251 :: u252 :: u253 :: u254 :: u255 :: u256 :: u257 :: u258 :: u259 :: u260 :: u261 :: u262 :: u263 :: u264 :: u265 :: u266 :: u267 :: u268 :: u269 :: u270 :: u271 :: u272 :: u273 :: u274 :: u275 :: u276 :: u277 :: u278 :: u279 :: u280 :: u281 :: u282 :: u283 :: u284 :: u285 :: u286 :: u287 :: u288 :: u289 :: u290 :: u291 :: u292 :: u293 :: u294 :: u295 :: u296 :: u297 :: u298 :: u299 :: u300 :: u301 :: u302 :: u303 :: u304 :: u305 :: u306 :: u307 :: u308 :: u309 :: u310 :: u311 :: u312 :: u313 :: u314 :: u315 :: u316 :: u317 :: u318 :: u319 :: u320 :: u321 :: u322 :: u323 :: u324 :: u325 :: u326 :: u327 :: u328 :: u329 :: u330 :: u331 :: u332 :: u333 :: u334 :: u335 :: u336 :: u337 :: u338 :: u339 :: u340 :: u341 :: u342 :: u343 :: u344 :: u345 :: u346 :: u347 :: u348 :: u349 :: u350 :: u351 :: u352 :: u353 :: u354 :: u355 :: u356 :: u357 :: u358 :: u359 :: u360 :: u361 :: u362 :: u363 :: u364 :: u365 :: u366 :: u367 :: []), []⟩ w0 := by
  conv => arg 2; whnf
  replace hexit := Lib.hid hexit
  have hP3 := hok.P3
  have hP1 := hok.P1
  have hF4 := hok.F4
  have hF2 := hok.F2
  have HB := Lib.hid (fun i (hi : i < 16) => show ipos p m.F (isA m.P wy) i + (m.F - b1 (isA m.P wy i)) ≤ 128 from by
    have h1 := ipos_next p m.F (isA m.P wy) i hi
    have h2 := ipos_end p m.F (isA m.P wy) m.P (by omega) (cnt_isA m.P (by omega) hP1 wy hwy) (by omega)
    omega)
  have HN := Lib.hid (fun i => show ipos p m.F (isA m.P wy) (i + 1) = ipos p m.F (isA m.P wy) i + (m.F - b1 (isA m.P wy i)) from rfl)
  have HG := Lib.hid (fun i => show getN xs false (ipos p m.F (isA m.P wy) i) (m.F - b1 (isA m.P wy i)) = ixN xs p m.F (isA m.P wy) i from rfl)
  have HX := Lib.hid (fun i (hi : i < 16) => ixP_set xs p m.F (isA m.P wy) i hi)
  have HXL := Lib.hid (fun i => ixP_length xs p m.F (isA m.P wy) i)
  have HX0 := Lib.hid (ixP_zero xs p m.F (isA m.P wy))
  have HL1 := Lib.hid (fun i => lessL_one m.P wy i)
  have HLs := Lib.hid (fun i j (h1 : 1 ≤ j) (h2 : j < 3) => lessL_step m.P wy i j h1 h2)
  have HLP := Lib.hid (fun i (hi : i < 16) => lessL_all m.P wy i (by omega) hP1 hwy hi)
  have HPP := Lib.hid (show ipos p m.F (isA m.P wy) 0 = p from rfl)
  clear hok hp hwy
  obtain ⟨IP, hIP⟩ : ∃ z, ipos p m.F (isA m.P wy) = z := ⟨_, rfl⟩
  rw [hIP] at HB HN HG hexit HPP
  clear hIP
  obtain ⟨IX, hIX⟩ : ∃ z, ixP xs p m.F (isA m.P wy) = z := ⟨_, rfl⟩
  rw [hIX] at HX HXL HX0 hexit
  clear hIX
  obtain ⟨IN, hIN⟩ : ∃ z, ixN xs p m.F (isA m.P wy) = z := ⟨_, rfl⟩
  rw [hIN] at HG HX
  clear hIN
  obtain ⟨LL, hLL⟩ : ∃ z, lessL m.P wy = z := ⟨_, rfl⟩
  rw [hLL] at HL1 HLs HLP
  clear hLL
  go_loopw [26] (fun ii wr => ∃ (i : Nat), i ≤ 16 ∧ ii = .int .i64 i ∧ Hid (Kn w [.row g25 35 (i64s (Bc.z16)), .row g24 35 (i64s (IX i)), .row gs 25 (i64s S), .row g59 59 [.slice A 16 c, .int .i64 ((IP i : Nat) : Int)], .row g6 54 [.int .i64 (m.P : Int), .int .i64 (m.W : Int), .int .i64 (m.T : Int), .int .i64 (m.C : Int), .int .i64 (m.L : Int), .int .i64 (m.A : Int), .int .i64 (m.E : Int), .int .i64 (m.O : Int), .int .i64 (m.F : Int), .int .i64 (m.S : Int)], .row g4 27 (i64s Bc.z64), .row g2 27 (i64s Bc.z64)] [bsF A 16 xs] wr)) (fun ii _ => 16 - (intOf ii).toNat)
  case atStart => exact ⟨0, by omega, rfl, by rw [HX0.out, HPP.out]; exact E⟩
  case round =>
    clear E
    obtain ⟨i, hi, rfl, E⟩ := hrel
    by_cases hlt : i < 16
    · have hin : (i : Int) < 16 := by omega
      have hb := HB.out i hlt
      have hN := Lib.hid (HN.out i)
      have hG := Lib.hid (HG.out i)
      have hX := Lib.hid (HX.out i hlt)
      have hXL := HXL.out i
      have hL1 := HL1.out i
      have hLs := Lib.hid (fun j (h1 : 1 ≤ j) (h2 : j < 3) => HLs.out i j h1 h2)
      have hLP := HLP.out i hlt
      have hbl := b1_le (isA m.P wy i)
      clear HB HN HG HX HXL HX0 HL1 HLs HLP HPP hexit
      obtain ⟨bl, hble⟩ : ∃ z, b1 (isA m.P wy i) = z := ⟨_, rfl⟩
      rw [hble] at hb hN hG hLP hbl
      clear hble
      obtain ⟨L1, hL1e⟩ : ∃ z, LL i = z := ⟨_, rfl⟩
      rw [hL1e] at hL1 hLs hLP
      clear hL1e
      obtain ⟨X1, hX1⟩ : ∃ z, IX i = z := ⟨_, rfl⟩
      rw [hX1] at hX hXL E
      clear hX1
      obtain ⟨p4, hp4⟩ : ∃ z, IP i = z := ⟨_, rfl⟩
      rw [hp4] at hb hN hG E
      clear hp4
      obtain ⟨fw, hfw⟩ : ∃ z, m.F - bl = z := ⟨_, rfl⟩
      rw [hfw] at hb hN hG
      have hM := Lib.hid (show wrap64 ((m.F : Int) - L1 m.P) = (fw : Int) from by rw [hLP, wrap64_small _ (by omega) (by omega)]; omega)
      have hf16 : fw ≤ 16 := by omega
      have hz := Lib.hid (show ((p4 + fw : Nat) : Int) = (p4 : Int) + (fw : Int) from by omega)
      have hi0 : ((i : Int) == 0) = decide (i = 0) := by
        by_cases h : i = 0
        · rw [h]; rfl
        · rw [decide_eq_false h, beq_eq_false_iff_ne]; omega
      clear hfw hLP
      cases hd : decide (i = 0)
      all_goals
        rw [hd] at hi0 hL1
        replace hL1 := Lib.hid hL1
        clear hd
        go_wp2_with (first | ((with_reducible refine kn_load E.out rfl rfl rfl rfl ?_)) | ((with_reducible refine kn_load_if E.out rfl rfl rfl rfl ?_)) | ((with_reducible refine kn_loads E.out rfl rfl rfl ?_ ?_); (focus (first | rfl | (simp only [i64s_length, u8s_length]; first | rfl | assumption | omega)))) | ((with_reducible refine kn_loads_if E.out rfl rfl rfl ?_ ?_); (focus (first | rfl | (simp only [i64s_length, u8s_length]; first | rfl | assumption | omega)))) | ((with_reducible refine kn_store1_int E.out rfl rfl rfl rfl rfl ?_); clear E; intro u E0; have E := Lib.hid E0; clear E0) | ((with_reducible refine kn_store1_slice E.out rfl rfl rfl rfl rfl ?_); clear E; intro u E0; have E := Lib.hid E0; clear E0) | ((with_reducible refine kn_store1_bool E.out rfl rfl rfl rfl rfl ?_); clear E; intro u E0; have E := Lib.hid E0; clear E0) | ((with_reducible refine kn_stores E.out rfl rfl rfl rfl rfl ?_ ?_ ?_); (focus (first | exact ⟨rfl, rfl⟩ | (simp only [i64s_length, u8s_length]; refine ⟨?_, ?_⟩ <;> first | rfl | assumption | omega))); (focus (first | exact i64s_one _ | exact u8s_one _ | simp [Value.oneCell'])); clear E; intro u E0; have E := Lib.hid E0; clear E0) | ((with_reducible refine kn_alloc E.out rfl rfl ?_); clear E; intro g u E0 hb0; have E := Lib.hid E0; clear E0 hb0) | ((with_reducible refine kn_box E.out rfl rfl rfl ?_); clear E; intro g u E0 hb0; have E := Lib.hid E0; clear E0 hb0) | ((with_reducible refine kn_box_int E.out rfl rfl rfl ?_); clear E; intro g u E0 hb0; have E := Lib.hid E0; clear E0 hb0) | ((with_reducible refine kn_box_slice E.out rfl rfl rfl ?_); clear E; intro g u E0 hb0; have E := Lib.hid E0; clear E0 hb0) | ((with_reducible refine kn_box_bool E.out rfl rfl rfl ?_); clear E; intro g u E0 hb0; have E := Lib.hid E0; clear E0 hb0) | ((with_reducible refine kn_box_func E.out rfl rfl rfl ?_); clear E; intro g u E0 hb0; have E := Lib.hid E0; clear E0 hb0))
        go_loopw [27, 28] (fun l pj wr => ∃ (j : Nat), 1 ≤ j ∧ j ≤ m.P ∧ l = .int .i64 (L1 j) ∧ pj = .int .i64 (j : Int) ∧ Hid (Kn w [.row g25 35 (i64s (Bc.z16)), .row g24 35 (i64s (X1)), .row gs 25 (i64s S), .row g59 59 [.slice A 16 c, .int .i64 ((p4 : Nat) : Int)], .row g6 54 [.int .i64 (m.P : Int), .int .i64 (m.W : Int), .int .i64 (m.T : Int), .int .i64 (m.C : Int), .int .i64 (m.L : Int), .int .i64 (m.A : Int), .int .i64 (m.E : Int), .int .i64 (m.O : Int), .int .i64 (m.F : Int), .int .i64 (m.S : Int)], .row g4 27 (i64s Bc.z64), .row g2 27 (i64s Bc.z64)] [bsF A 16 xs] wr)) (fun _ pj _ => m.P - (intOf pj).toNat)
        case atStart => exact ⟨1, by omega, by omega, by rw [hL1.out]; rfl, rfl, E⟩
        case round =>
          clear E
          obtain ⟨j, hj1, hjP, rfl, rfl, E⟩ := hrel
          by_cases hltj : j < m.P
          · have hjn : (j : Int) < (m.P : Int) := by omega
            have hAn := Lib.hid (fun u => ranchor_any (m.P : Int) (wy : Int) (j : Int) u)
            have hst := hLs.out j hj1 (by omega)
            clear hb hN hG hX hXL hL1 hLs hM hz
            obtain ⟨av, hav⟩ : ∃ z, anchorV (m.P : Int) (wy : Int) (j : Int) = z := ⟨_, rfl⟩
            rw [hav] at hAn hst
            clear hav
            by_cases hae : av = (i : Int)
            · have hab : (av == (i : Int)) = true := by rw [hae]; exact beq_self_eq_true _
              rw [if_pos hae] at hst
              replace hst := Lib.hid hst
              clear hae
              go_wp2_with (first
                | (go_at_call 28; refine (hAn.out _).mono ?_; clear hAn; rintro e w1 ⟨rfl, hb⟩; have E1 := Lib.hid (E.out.later hb); clear hb E; have E := E1; clear E1)
                | ((with_reducible refine kn_load E.out rfl rfl rfl rfl ?_)) | ((with_reducible refine kn_load_if E.out rfl rfl rfl rfl ?_)) | ((with_reducible refine kn_loads E.out rfl rfl rfl ?_ ?_); (focus (first | rfl | (simp only [i64s_length, u8s_length]; first | rfl | assumption | omega)))) | ((with_reducible refine kn_loads_if E.out rfl rfl rfl ?_ ?_); (focus (first | rfl | (simp only [i64s_length, u8s_length]; first | rfl | assumption | omega)))) | ((with_reducible refine kn_store1_int E.out rfl rfl rfl rfl rfl ?_); clear E; intro u E0; have E := Lib.hid E0; clear E0) | ((with_reducible refine kn_store1_slice E.out rfl rfl rfl rfl rfl ?_); clear E; intro u E0; have E := Lib.hid E0; clear E0) | ((with_reducible refine kn_store1_bool E.out rfl rfl rfl rfl rfl ?_); clear E; intro u E0; have E := Lib.hid E0; clear E0) | ((with_reducible refine kn_stores E.out rfl rfl rfl rfl rfl ?_ ?_ ?_); (focus (first | exact ⟨rfl, rfl⟩ | (simp only [i64s_length, u8s_length]; refine ⟨?_, ?_⟩ <;> first | rfl | assumption | omega))); (focus (first | exact i64s_one _ | exact u8s_one _ | simp [Value.oneCell'])); clear E; intro u E0; have E := Lib.hid E0; clear E0) | ((with_reducible refine kn_alloc E.out rfl rfl ?_); clear E; intro g u E0 hb0; have E := Lib.hid E0; clear E0 hb0) | ((with_reducible refine kn_box E.out rfl rfl rfl ?_); clear E; intro g u E0 hb0; have E := Lib.hid E0; clear E0 hb0) | ((with_reducible refine kn_box_int E.out rfl rfl rfl ?_); clear E; intro g u E0 hb0; have E := Lib.hid E0; clear E0 hb0) | ((with_reducible refine kn_box_slice E.out rfl rfl rfl ?_); clear E; intro g u E0 hb0; have E := Lib.hid E0; clear E0 hb0) | ((with_reducible refine kn_box_bool E.out rfl rfl rfl ?_); clear E; intro g u E0 hb0; have E := Lib.hid E0; clear E0 hb0) | ((with_reducible refine kn_box_func E.out rfl rfl rfl ?_); clear E; intro g u E0 hb0; have E := Lib.hid E0; clear E0 hb0))
              go_roundw
              case rel => exact ⟨j + 1, by omega, by omega, by rw [hst.out], by go_num, E⟩
              case measure => simp [intOf]; try omega
            · have hab : (av == (i : Int)) = false := beq_eq_false_iff_ne.2 hae
              rw [if_neg hae] at hst
              replace hst := Lib.hid hst
              clear hae
              go_wp2_with (first
                | (go_at_call 28; refine (hAn.out _).mono ?_; clear hAn; rintro e w1 ⟨rfl, hb⟩; have E1 := Lib.hid (E.out.later hb); clear hb E; have E := E1; clear E1)
                | ((with_reducible refine kn_load E.out rfl rfl rfl rfl ?_)) | ((with_reducible refine kn_load_if E.out rfl rfl rfl rfl ?_)) | ((with_reducible refine kn_loads E.out rfl rfl rfl ?_ ?_); (focus (first | rfl | (simp only [i64s_length, u8s_length]; first | rfl | assumption | omega)))) | ((with_reducible refine kn_loads_if E.out rfl rfl rfl ?_ ?_); (focus (first | rfl | (simp only [i64s_length, u8s_length]; first | rfl | assumption | omega)))) | ((with_reducible refine kn_store1_int E.out rfl rfl rfl rfl rfl ?_); clear E; intro u E0; have E := Lib.hid E0; clear E0) | ((with_reducible refine kn_store1_slice E.out rfl rfl rfl rfl rfl ?_); clear E; intro u E0; have E := Lib.hid E0; clear E0) | ((with_reducible refine kn_store1_bool E.out rfl rfl rfl rfl rfl ?_); clear E; intro u E0; have E := Lib.hid E0; clear E0) | ((with_reducible refine kn_stores E.out rfl rfl rfl rfl rfl ?_ ?_ ?_); (focus (first | exact ⟨rfl, rfl⟩ | (simp only [i64s_length, u8s_length]; refine ⟨?_, ?_⟩ <;> first | rfl | assumption | omega))); (focus (first | exact i64s_one _ | exact u8s_one _ | simp [Value.oneCell'])); clear E; intro u E0; have E := Lib.hid E0; clear E0) | ((with_reducible refine kn_alloc E.out rfl rfl ?_); clear E; intro g u E0 hb0; have E := Lib.hid E0; clear E0 hb0) | ((with_reducible refine kn_box E.out rfl rfl rfl ?_); clear E; intro g u E0 hb0; have E := Lib.hid E0; clear E0 hb0) | ((with_reducible refine kn_box_int E.out rfl rfl rfl ?_); clear E; intro g u E0 hb0; have E := Lib.hid E0; clear E0 hb0) | ((with_reducible refine kn_box_slice E.out rfl rfl rfl ?_); clear E; intro g u E0 hb0; have E := Lib.hid E0; clear E0 hb0) | ((with_reducible refine kn_box_bool E.out rfl rfl rfl ?_); clear E; intro g u E0 hb0; have E := Lib.hid E0; clear E0 hb0) | ((with_reducible refine kn_box_func E.out rfl rfl rfl ?_); clear E; intro g u E0 hb0; have E := Lib.hid E0; clear E0 hb0))
              go_roundw
              case rel => exact ⟨j + 1, by omega, by omega, by rw [hst.out], by go_num, E⟩
              case measure => simp [intOf]; try omega
          · have hjn : ¬ ((j : Int) < (m.P : Int)) := by omega
            have hje : j = m.P := by omega
            have hM2 := Lib.hid (show wrap64 ((m.F : Int) - L1 j) = (fw : Int) from by rw [hje]; exact hM.out)
            clear hje hltj hM hLs hL1
            go_wp2_with (first
              | (go_at_call 26; refine (rtake_any E.out g59 A c xs p4 fw _ _ hM2.out hz.out (by simp) hf16 hb).mono ?_; rw [hG.out]; rintro e w1 ⟨rfl, E0⟩; clear E; have E := Lib.hid E0; clear E0)
              | ((with_reducible refine kn_storei (g := g24) (i := i) E.out rfl rfl rfl rfl rfl ?hi ?_); (case hi => omega); clear E; intro u E0; have E := Lib.hid E0; clear E0)
              | ((with_reducible refine kn_load E.out rfl rfl rfl rfl ?_)) | ((with_reducible refine kn_load_if E.out rfl rfl rfl rfl ?_)) | ((with_reducible refine kn_loads E.out rfl rfl rfl ?_ ?_); (focus (first | rfl | (simp only [i64s_length, u8s_length]; first | rfl | assumption | omega)))) | ((with_reducible refine kn_loads_if E.out rfl rfl rfl ?_ ?_); (focus (first | rfl | (simp only [i64s_length, u8s_length]; first | rfl | assumption | omega)))) | ((with_reducible refine kn_store1_int E.out rfl rfl rfl rfl rfl ?_); clear E; intro u E0; have E := Lib.hid E0; clear E0) | ((with_reducible refine kn_store1_slice E.out rfl rfl rfl rfl rfl ?_); clear E; intro u E0; have E := Lib.hid E0; clear E0) | ((with_reducible refine kn_store1_bool E.out rfl rfl rfl rfl rfl ?_); clear E; intro u E0; have E := Lib.hid E0; clear E0) | ((with_reducible refine kn_stores E.out rfl rfl rfl rfl rfl ?_ ?_ ?_); (focus (first | exact ⟨rfl, rfl⟩ | (simp only [i64s_length, u8s_length]; refine ⟨?_, ?_⟩ <;> first | rfl | assumption | omega))); (focus (first | exact i64s_one _ | exact u8s_one _ | simp [Value.oneCell'])); clear E; intro u E0; have E := Lib.hid E0; clear E0) | ((with_reducible refine kn_alloc E.out rfl rfl ?_); clear E; intro g u E0 hb0; have E := Lib.hid E0; clear E0 hb0) | ((with_reducible refine kn_box E.out rfl rfl rfl ?_); clear E; intro g u E0 hb0; have E := Lib.hid E0; clear E0 hb0) | ((with_reducible refine kn_box_int E.out rfl rfl rfl ?_); clear E; intro g u E0 hb0; have E := Lib.hid E0; clear E0 hb0) | ((with_reducible refine kn_box_slice E.out rfl rfl rfl ?_); clear E; intro g u E0 hb0; have E := Lib.hid E0; clear E0 hb0) | ((with_reducible refine kn_box_bool E.out rfl rfl rfl ?_); clear E; intro g u E0 hb0; have E := Lib.hid E0; clear E0 hb0) | ((with_reducible refine kn_box_func E.out rfl rfl rfl ?_); clear E; intro g u E0 hb0; have E := Lib.hid E0; clear E0 hb0))
            go_roundw
            case rel => exact ⟨i + 1, by omega, by go_num, by rw [hN.out, ← hX.out]; exact E⟩
            case measure => simp [intOf]; try omega
    · have hin2 : ¬ ((i : Int) < 16) := by omega
      have hie : i = 16 := by omega
      rw [hie] at E
      clear HB HN HG HX HXL HX0 HL1 HLs HLP HPP hlt hie
      go_wp2_with (first | ((with_reducible refine kn_load E.out rfl rfl rfl rfl ?_)) | ((with_reducible refine kn_load_if E.out rfl rfl rfl rfl ?_)) | ((with_reducible refine kn_loads E.out rfl rfl rfl ?_ ?_); (focus (first | rfl | (simp only [i64s_length, u8s_length]; first | rfl | assumption | omega)))) | ((with_reducible refine kn_loads_if E.out rfl rfl rfl ?_ ?_); (focus (first | rfl | (simp only [i64s_length, u8s_length]; first | rfl | assumption | omega)))) | ((with_reducible refine kn_store1_int E.out rfl rfl rfl rfl rfl ?_); clear E; intro u E0; have E := Lib.hid E0; clear E0) | ((with_reducible refine kn_store1_slice E.out rfl rfl rfl rfl rfl ?_); clear E; intro u E0; have E := Lib.hid E0; clear E0) | ((with_reducible refine kn_store1_bool E.out rfl rfl rfl rfl rfl ?_); clear E; intro u E0; have E := Lib.hid E0; clear E0) | ((with_reducible refine kn_stores E.out rfl rfl rfl rfl rfl ?_ ?_ ?_); (focus (first | exact ⟨rfl, rfl⟩ | (simp only [i64s_length, u8s_length]; refine ⟨?_, ?_⟩ <;> first | rfl | assumption | omega))); (focus (first | exact i64s_one _ | exact u8s_one _ | simp [Value.oneCell'])); clear E; intro u E0; have E := Lib.hid E0; clear E0) | ((with_reducible refine kn_alloc E.out rfl rfl ?_); clear E; intro g u E0 hb0; have E := Lib.hid E0; clear E0 hb0) | ((with_reducible refine kn_box E.out rfl rfl rfl ?_); clear E; intro g u E0 hb0; have E := Lib.hid E0; clear E0 hb0) | ((with_reducible refine kn_box_int E.out rfl rfl rfl ?_); clear E; intro g u E0 hb0; have E := Lib.hid E0; clear E0 hb0) | ((with_reducible refine kn_box_slice E.out rfl rfl rfl ?_); clear E; intro g u E0 hb0; have E := Lib.hid E0; clear E0 hb0) | ((with_reducible refine kn_box_bool E.out rfl rfl rfl ?_); clear E; intro g u E0 hb0; have E := Lib.hid E0; clear E0 hb0) | ((with_reducible refine kn_box_func E.out rfl rfl rfl ?_); clear E; intro g u E0 hb0; have E := Lib.hid E0; clear E0 hb0))
      exact onlyExit_intro (hexit.out _ _ _ _ _ _ _ _ _ _ _ _ _ _ _ _ _ _ _ _ _ _ _ _ _ _ _ _ _ _ _ E)
end Go.Proofs.YtnoailihkjccbaaDoor
