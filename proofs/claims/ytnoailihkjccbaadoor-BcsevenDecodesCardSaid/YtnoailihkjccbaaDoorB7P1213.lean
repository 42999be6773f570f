/- A loop of the document's Decode. -/
import Derived.Test.YtnoailihkjccbaaDoorB7P13
import Derived.Test.YtnoailihkjccbaaDoorB7Kept
set_option linter.all false
namespace Go.Proofs.YtnoailihkjccbaaDoor
open Go.RowKit
open Bi Lv Bt B7

set_option maxHeartbeats 2000000 in
set_option maxRecDepth 100000 in
theorem rd1213 (m : Md) (A : Option Addr) (c : Nat) (xs : List Nat) (w w0 : World) (gs g59 g6 g4 g2 n : Nat) (g24 g25 k1 p3 pz wy tn ch : Nat) (hok : Ok m k1) (hn : n = 2 * m.P) (hp3 : p3 = q1 m k1) (hwy : wy = wayN m xs k1) (htn : (tn : Int) = G xs (k1 + m.W) m.T) (hch : (ch : Int) = chN m xs k1) (K0 : Act → World → Prop) (u1 u3 u5 u12 u13 u14 u15 u16 u17 u18 u19 u20 u21 u22 u23 u26 u27 u28 u29 u30 u32 u33 u34 u35 u36 u37 u38 u39 u40 u41 u42 u43 u44 u45 u46 u47 u48 u49 u50 u51 u52 u53 u54 u55 u56 u57 u58 u59 u60 u61 u62 u63 u64 u65 u66 u67 u68 u69 u70 u71 u72 u73 u74 u75 u76 u77 u78 u79 u80 u81 u82 u83 u84 u85 u86 u87 u88 u89 u90 u91 u92 u93 u94 u95 u96 u97 u98 u99 u100 u101 u102 u103 u104 u105 u106 u107 u108 u109 u110 u111 u112 u113 u114 u115 u116 u117 u118 u119 u120 u121 u122 u123 u124 u125 u126 u127 u128 u129 u130 u131 u132 u133 u134 u135 u136 u137 u138 u139 u140 u141 u142 u143 u144 u145 u146 u147 u148 u149 u150 u151 u152 u153 u154 u155 u156 u157 u158 u159 u160 u161 u162 u163 u164 u165 u166 u167 u168 u169 u170 u171 u172 u173 u174 u175 u176 u177 u178 u179 u180 u181 u182 u183 u184 u185 u186 u187 u188 u189 u190 u191 u192 u193 u194 u195 u196 u197 u198 u199 u200 u201 u202 u203 u204 u205 u206 u207 u208 u209 u210 u211 u212 u213 u214 u215 u216 u217 u218 u219 u220 u221 u222 u223 u224 u225 u226 u227 u228 u229 u230 u231 u232 u233 u234 u235 u236 u237 u238 u239 u240 u241 u242 u243 u244 u245 u246 u247 u248 u249 u250 u251 u252 u253 u254 u255 u256 u257 u258 u259 u260 u261 u262 u263 u264 u265 u266 u267 u268 u269 u270 u271 u272 u273 u274 u275 u276 u277 u278 u279 u280 u281 u282 u283 u284 u285 u286 u287 u288 u289 u290 u291 u292 u293 u294 u295 u296 u297 u298 u299 u300 u301 u302 u303 u304 u305 u306 u307 u308 u309 u310 u311 u312 u313 u314 u315 u316 u317 u318 u319 u320 u321 u322 u323 u324 u325 u326 u327 u328 u329 u330 u331 u332 u333 u334 u335 u336 u337 u338 u339 u340 u341 u342 u343 u344 u345 u346 u347 u348 u349 u350 u351 u352 u353 u354 u355 u356 u357 u358 u359 u360 u361 u362 u363 u364 u365 u366 u367 : Value)
    (hexit : ∀ (v31 v32 v33 v34 v35 v36 v37 v38 v39 v40 v269 v270 v271 v272 v273 v274 v275 v276 v277 v278 v279 v280 v281 v282 v283 v284 v285 v286 v287 v288 v289 v290 v291 v292 v293 v294 v295 v296 v297 v298 v299 v300 v301 v302 v303 v304 v305 v306 v307 v308 v309 v310 v311 v312 v313 v314 v315 v316 v317 v318 v319 v320 v321 v322 v323 v324 v325 v326 v327 v328 v329 v330 v331 v332 v333 v334 v335 v336 v337 v338 v339 v340 v341 v342 v343 v344 v345 v346 v347 v348 v349 v350 v351 v352 v353 v354 v355 v356 v357 v358 v359 v360 v361 v362 v363 v364 v365 v366 : Value) (wz : World), Hid (Kn w [.row g25 35 (i64s (secV m xs (q3 m xs k1))), .row g24 35 (i64s (ixP xs (q2 m k1) m.F (isA m.P wy) 16)), .row gs 25 (i64s (s4 m xs p3 (n * 4))), .row g59 59 [.slice A 16 c, .int .i64 ((pz : Nat) : Int)], .row g6 54 [.int .i64 (m.P : Int), .int .i64 (m.W : Int), .int .i64 (m.T : Int), .int .i64 (m.C : Int), .int .i64 (m.L : Int), .int .i64 (m.A : Int), .int .i64 (m.E : Int), .int .i64 (m.O : Int), .int .i64 (m.F : Int), .int .i64 (m.S : Int)], .row g4 27 (i64s (fl (List.replicate 64 0) (rTX m xs k1) 16)), .row g2 27 (i64s Bc.z64)] [bsF A 16 xs] wz) → K0 ⟨List.toArray ((.slice A 16 c) :: u1 :: (.pointer (some ⟨g2, 0, none⟩)) :: u3 :: (.pointer (some ⟨g4, 0, none⟩)) :: u5 :: (.pointer (some ⟨g6, 0, none⟩)) :: (.pointer (some ⟨g59, 0, none⟩)) :: (.int .i64 (wy : Int)) :: (.int .i64 (tn : Int)) :: (.int .i64 (ch : Int)) :: (.slice (some ⟨gs, 0, none⟩) n n) :: u12 :: u13 :: u14 :: u15 :: u16 :: u17 :: u18 :: u19 :: u20 :: u21 :: u22 :: u23 :: (.pointer (some ⟨g24, 0, none⟩)) :: (.pointer (some ⟨g25, 0, none⟩)) :: u26 :: u27 :: u28 :: u29 :: u30 :: v31 :: v32 :: v33 :: v34 :: v35 :: v36 :: v37 :: v38 :: v39 :: v40 :: u41 :: u42 :: u43 :: u44 :: u45 :: u46 :: u47 :: u48 :: u49 :: u50 :: u51 :: u52 :: u53 :: u54 :: u55 :: u56 :: u57 :: u58 :: u59 :: u60 :: u61 :: u62 :: u63 :: u64 :: u65 :: u66 :: u67 :: u68 :: u69 :: u70 :: u71 :: u72 :: u73 :: u74 :: u75 :: u76 :: u77 :: u78 :: u79 :: u80 :: u81 :: u82 :: u83 :: u84 :: u85 :: u86 :: u87 :: u88 :: u89 :: u90 :: u91 :: u92 :: u93 :: u94 :: u95 :: u96 :: u97 :: u98 :: u99 :: u100 :: u101 :: u102 :: u103 :: u104 :: u105 :: u106 :: u107 :: u108 :: u109 :: u110 :: u111 :: u112 :: u113 :: u114 :: u115 :: u116 :: u117 :: u118 :: u119 :: u120 :: u121 :: u122 :: u123 :: u124 :: u125 :: u126 :: u127 :: u128 :: u129 :: u130 :: u131 :: u132 :: u133 :: u134 :: u135 :: u136 :: u137 :: u138 :: u139 :: u140 :: u141 :: u142 :: u143 :: u144 :: u145 :: u146 :: u147 :: u148 :: u149 :: u150 :: u151 :: u152 :: u153 :: u154 :: u155 :: u156 :: u157 :: u158 :: u159 :: u160 :: u161 :: u162 :: u163 :: u164 :: u165 :: u166 :: u167 :: u168 :: u169 :: u170 :: u171 :: u172 :: u173 :: u174 :: u175 :: u176 :: u177 :: u178 :: u179 :: u180 :: u181 :: u182 :: u183 :: u184 :: u185 :: u186 :: u187 :: u188 :: u189 :: u190 :: u191 :: u192 :: u193 :: u194 :: u195 :: u196 :: u197 :: u198 :: u199 :: u200 :: u201 :: u202 :: u203 :: u204 :: u205 :: u206 :: u207 :: u208 :: u209 :: u210 :: u211 :: u212 :: u213 :: u214 :: u215 :: u216 :: u217 :: u218 :: u219 :: u220 :: u221 :: u222 :: u223 :: u224 :: u225 :: u226 :: u227 :: u228 :: u229 :: u230 :: u231 :: u232 :: u233 :: u234 :: u235 :: u236 :: u237 :: u238 :: u239 :: u240 :: u241 :: u242 :: u243 :: u244 :: u245 :: u246 :: u247 :: u248 :: u249 :: u250 :: u251 :: u252 :: u253 :: u254 :: u255 :: u256 :: u257 :: u258 :: u259 :: u260 :: u261 :: u262 :: u263 :: u264 :: u265 :: u266 :: u267 :: u268 :: v269 :: v270 :: v271 :: v272 :: v273 :: v274 :: v275 :: v276 :: v277 :: v278 :: v279 :: v280 :: v281 :: v282 :: v283 :: v284 :: v285 :: v286 :: v287 :: v288 :: v289 :: v290 :: v291 :: v292 :: v293 :: v294 :: v295 :: v296 :: v297 :: v298 :: v299 :: v300 :: v301 :: v302 :: v303 :: v304 :: v305 :: v306 :: v307 :: v308 :: v309 :: v310 :: v311 :: v312 :: v313 :: v314 :: v315 :: v316 :: v317 :: v318 :: v319 :: v320 :: v321 :: v322 :: v323 :: v324 :: v325 :: v326 :: v327 :: v328 :: v329 :: v330 :: v331 :: v332 :: v333 :: v334 :: v335 :: v336 :: v337 :: v338 :: v339 :: v340 :: v341 :: v342 :: v343 :: v344 :: v345 :: v346 :: v347 :: v348 :: v349 :: v350 :: v351 :: v352 :: v353 :: v354 :: v355 :: v356 :: v357 :: v358 :: v359 :: v360 :: v361 :: v362 :: v363 :: v364 :: v365 :: v366 :: u367 :: []), []⟩ wz)
    (E : Hid (Kn w [.row g25 35 (i64s (secV m xs (q3 m xs k1))), .row g24 35 (i64s (ixP xs (q2 m k1) m.F (isA m.P wy) 16)), .row gs 25 (i64s (s4 m xs p3 (n * 4))), .row g59 59 [.slice A 16 c, .int .i64 ((pz : Nat) : Int)], .row g6 54 [.int .i64 (m.P : Int), .int .i64 (m.W : Int), .int .i64 (m.T : Int), .int .i64 (m.C : Int), .int .i64 (m.L : Int), .int .i64 (m.A : Int), .int .i64 (m.E : Int), .int .i64 (m.O : Int), .int .i64 (m.F : Int), .int .i64 (m.S : Int)], .row g4 27 (i64s (Bc.z64)), .row g2 27 (i64s Bc.z64)] [bsF A 16 xs] w0)) :
    Code.wp Tryd.prog (lp9 11) (onlyExit 22 K0) ⟨List.toArray ((.slice A 16 c) :: u1 :: (.pointer (some ⟨g2, 0, none⟩)) :: u3 :: (.pointer (some ⟨g4, 0, none⟩)) :: u5 :: (.pointer (some ⟨g6, 0, none⟩)) :: (.pointer (some ⟨g59, 0, none⟩)) :: (.int .i64 (wy : Int)) :: (.int .i64 (tn : Int)) :: (.int .i64 (ch : Int)) :: (.slice (some ⟨gs, 0, none⟩) n n) :: u12 :: u13 :: u14 :: u15 :: u16 :: u17 :: u18 :: u19 :: u20 :: u21 :: u22 :: u23 :: (.pointer (some ⟨g24, 0, none⟩)) :: (.pointer (some ⟨g25, 0, none⟩)) :: u26 :: u27 :: u28 :: u29 :: u30 :: (.int .i64 0) :: u32 :: u33 :: u34 :: u35 :: u36 :: u37 :: u38 :: u39 :: u40 :: u41 :: u42 :: u43 :: u44 :: u45 :: u46 :: u47 :: u48 :: u49 :: u50 :: u51 :: u52 :: u53 :: u54 :: u55 :: u56 :: u57 :: u58 :: u59 :: u60 :: u61 :: u62 :: u63 :: u64 :: u65 :: u66 :: u67 :: u68 :: u69 :: u70 :: u71 :: u72 :: u73 :: u74 :: u75 :: u76 :: u77 :: u78 :: u79 :: u80 :: u81 :: u82 :: u83 :: u84 :: u85 :: u86 :: u87 :: u88 :: u89 :: u90 :: u91 :: u92 :: u93 :: u94 :: u95 :: u96 :: u97 :: u98 :: u99 :: u100 :: u101 :: u102 :: u103 :: u104 :: u105 :: u106 :: u107 :: u108 :: u109 :: u110 :: u111 :: u112 :: u113 :: u114 :: u115 :: u116 :: u117 :: u118 :: u119 :: u120 :: u121 :: u122 :: u123 :: u124 :: u125 :: u126 :: u127 :: u128 :: u129 :: u130 :: u131 :: u132 :: u133 :: u134 :: u135 :: u136 :: u137 :: u138 :: u139 :: u140 :: u141 :: u142 :: u143 :: u144 :: u145 :: u146 :: u147 :: u148 :: u149 :: u150 :: u151 :: u152 :: u153 :: u154 :: u155 :: u156 :: u157 :: u158 :: u159 :: u160 :: u161 :: u162 :: u163 :: u164 :: u165 :: u166 :: u167 :: u168 :: u169 :: u170 :: u171 :: u172 :: u173 :: u174 :: u175 :: u176 :: u177 :: u178 :: u179 :: u180 :: u181 :: u182 :: u183 :: u184 :: u185 :: u186 :: u187 :: u188 :: u189 :: u190 :: u191 :: u192 :: u193 :: u194 :: u195 :: u196 :: u197 :: u198 :: u199 :: u200 :: u201 :: u202 :: u203 :: u204 :: u205 :: u206 :: u207 :: u208 :: u209 :: u210 :: u211 :: u212 :: u213 :: u214 :: u215 :: u216 :: u217 :: u218 :: u219 :: u220 :: u221 :: u222 :: u223 :: u224 :: u225 :: u226 :: u227 :: u228 :: u229 :: u230 :: u231 :: u232 :: u233 :: u234 :: u235 :: u236 :: u237 :: u238 :: u239 :: u240 :: u241 :: u242 :: u243 :: u244 :: u245 :: u246 :: u247 :: u248 :: u249 :: u250 :: u251 :: u252 :: u253 :: u254 :: u255 :: u256 :: u257 :: u258 :: u259 :: u260 :: u261 :: u262 :: u263 :: u264 :: u265 :: u266 :: u267 :: u268 :: u269 :: u270 :: u271 :: u272 :: u273 :: u274 :: u275 :: u276 :: u277 :: u278 :: u279 :: u280 :: u281 :: u282 :: u283 :: u284 :: u285 :: u286 :: u287 :: u288 :: u289 :: u290 :: u291 :: u292 :: u293 :: u294 :: u295 :: u296 :: u297 :: u298 :: u299 :: u300 :: u301 :: u302 :: u303 :: u304 :: u305 :: u306 :: u307 :: u308 :: u309 :: u310 :: u311 :: u312 :: u313 :: u314 :: u315 :: u316 :: u317 :: u318 :: u319 :: u320 :: u321 :: u322 :: u323 :: u324 :: u325 :: u326 :: u327 :: u328 :: u329 :: u330 :: u331 :: u332 :: u333 :: u334 :: u335 :: u336 :: u337 :: u338 :: u339 :: u340 :: u341 :: u342 :: u343 :: u344 :: u345 :: u346 :: u347 :: u348 :: u349 :: u350 :: u351 :: u352 :: u353 :: u354 :: u355 :: u356 :: u357 :: u358 :: u359 :: u360 :: u361 :: u362 :: u363 :: u364 :: u365 :: u366 :: u367 :: []), []⟩ w0 := by
  conv => arg 2; whnf
  replace hexit := Lib.hid hexit
  have hP3 := hok.P3
  have hP1 := hok.P1
  have hF4 := hok.F4
  have hF2 := hok.F2
  have hS3 := hok.S3
  have hS1 := hok.S1
  have hn6 : n ≤ 6 := by omega
  have hwy6 : wy < 64 := by
    rw [hwy]
    exact Nat.lt_of_lt_of_le (getN_lt xs false k1 m.W 6 hok.W6) (by decide)
  have htn4 : tn < 4 := by
    have h := G_lt xs (k1 + m.W) m.T
    have h2 : (2 : Int) ^ m.T ≤ 4 := by
      have : 2 ^ m.T ≤ 2 ^ 2 := Nat.pow_le_pow_right (by omega) hok.T2
      exact_mod_cast this
    omega
  have hCS : chN m xs k1 = 1 → m.S ≠ 0 := by
    intro h h0
    have hc := hok.CS h0
    unfold chN at h
    rw [hc, G_zero] at h
    omega
  have HXF := Lib.hid (fun i (hi : i < 16) => show (ixP xs (q2 m k1) m.F (isA m.P wy) 16).getD i 0 = ((ixN xs (q2 m k1) m.F (isA m.P wy) i : Nat) : Int) from by rw [ixP_getD _ _ _ _ _ _ hi, if_pos hi])
  have HXS := Lib.hid (fun (hs : m.S ≠ 0) i (hi : i < 16) => show (secV m xs (q3 m xs k1)).getD i 0 = ((ixN xs (q3 m xs k1) m.S is0 i : Nat) : Int) from by unfold secV; rw [if_neg hs, ixP_getD _ _ _ _ _ _ hi, if_pos hi])
  have hxfl := Lib.hid (ixP_length xs (q2 m k1) m.F (isA m.P wy) 16)
  have hxsl := Lib.hid (show (secV m xs (q3 m xs k1)).length = 16 from by unfold secV; split; rfl; exact ixP_length _ _ _ _ _)
  have HTX := Lib.hid (fun i (hi : i < 16) => show rTX m xs k1 i = tuV (btV (((enV m xs (q1 m k1)).drop (2 * ptN m xs k1 i * 4)).take 4) (((enV m xs (q1 m k1)).drop ((2 * ptN m xs k1 i + 1) * 4)).take 4) ((wl (cB m xs k1)).getD (cN m xs k1 i) 0) ((wl (aB m xs k1)).getD (aN m xs k1 i) 0)) (tn : Int) from by
    unfold rTX txV
    rw [cwV_getD m xs k1 i hi hCS, awV_getD m xs k1 i hi, htn])
  have HRW := Lib.hid (fun j (hj : j < n) => show ((s4 m xs p3 (n * 4)).drop (j * 4)).take 4 = ((enV m xs (q1 m k1)).drop (j * 4)).take 4 from by rw [hn, hp3]; exact s4_row m xs (q1 m k1) j (by omega) hP3)
  have HSM := Lib.hid (fun k j => row_sm (enV m xs (q1 m k1)) (enV_bd m xs (q1 m k1) hP3) k j)
  have HRL := Lib.hid (fun j (hj : j < n) => show (((enV m xs (q1 m k1)).drop (j * 4)).take 4).length = 4 from by rw [List.length_take, List.length_drop, enV_length]; omega)
  have hsl := Lib.hid (show (s4 m xs p3 (n * 4)).length = n * 4 from by rw [s4_length, hn])
  have HPT := Lib.hid (fun (i : Nat) (hi : i < 16) => show partV (m.P : Int) (wy : Int) (i : Int) = ((ptN m xs k1 i : Nat) : Int) ∧ ptN m xs k1 i < m.P from by
    have h := partV_lt m.P (by omega) hP1 wy hwy6 i hi
    have e : ptN m xs k1 i = (partV m.P wy i).toNat := by rw [hwy]; rfl
    rw [e]
    omega)
  have HFS := Lib.hid (fun k => show fl (List.replicate 64 0) (rTX m xs k1) (k + 1) = spl (fl (List.replicate 64 0) (rTX m xs k1) k) (k * 4) (rTX m xs k1 k) from rfl)
  have HFL := Lib.hid (fun k => show (fl (List.replicate 64 0) (rTX m xs k1) k).length = 64 from by rw [fl_length]; simp)
  have HF0 := Lib.hid (show fl (List.replicate 64 0) (rTX m xs k1) 0 = Bc.z64 from rfl)
  have HcN := Lib.hid (fun i => show cN m xs k1 i = if chN m xs k1 = 1 then ixN xs (q3 m xs k1) m.S is0 i else ixN xs (q2 m k1) m.F (isA m.P wy) i from by rw [hwy]; rfl)
  have HcB := Lib.hid (show cB m xs k1 = if chN m xs k1 = 1 then m.S else m.F from rfl)
  have HaN := Lib.hid (fun i => show aN m xs k1 i = if chN m xs k1 = 1 then ixN xs (q2 m k1) m.F (isA m.P wy) i else if m.S = 0 then ixN xs (q2 m k1) m.F (isA m.P wy) i else ixN xs (q3 m xs k1) m.S is0 i from by rw [hwy]; rfl)
  have HaB := Lib.hid (show aB m xs k1 = if chN m xs k1 = 1 then m.F else if m.S = 0 then m.F else m.S from rfl)
  have HlF := Lib.hid (fun i => ixN_lt xs (q2 m k1) m.F (isA m.P wy) i)
  have HlS := Lib.hid (fun i => ixN_lt xs (q3 m xs k1) m.S is0 i)
  rw [← hch] at HcN HcB HaN HaB
  rw [← hch] at hCS
  clear htn hch hp3 hwy hok
  replace hn := Lib.hid hn
  obtain ⟨FS, hFS⟩ : ∃ z, ixP xs (q2 m k1) m.F (isA m.P wy) 16 = z := ⟨_, rfl⟩
  rw [hFS] at HXF hxfl hexit E
  clear hFS
  obtain ⟨SS, hSS⟩ : ∃ z, secV m xs (q3 m xs k1) = z := ⟨_, rfl⟩
  rw [hSS] at HXS hxsl hexit E
  clear hSS
  obtain ⟨FN, hFN⟩ : ∃ z, ixN xs (q2 m k1) m.F (isA m.P wy) = z := ⟨_, rfl⟩
  rw [hFN] at HXF HcN HaN HlF
  clear hFN
  obtain ⟨SN, hSN⟩ : ∃ z, ixN xs (q3 m xs k1) m.S is0 = z := ⟨_, rfl⟩
  rw [hSN] at HXS HcN HaN HlS
  clear hSN
  obtain ⟨CN, hCN⟩ : ∃ z, cN m xs k1 = z := ⟨_, rfl⟩
  rw [hCN] at HcN HTX
  clear hCN
  obtain ⟨CB, hCB⟩ : ∃ z, cB m xs k1 = z := ⟨_, rfl⟩
  rw [hCB] at HcB HTX
  clear hCB
  obtain ⟨AN, hAN⟩ : ∃ z, aN m xs k1 = z := ⟨_, rfl⟩
  rw [hAN] at HaN HTX
  clear hAN
  obtain ⟨AB, hAB⟩ : ∃ z, aB m xs k1 = z := ⟨_, rfl⟩
  rw [hAB] at HaB HTX
  clear hAB
  obtain ⟨EN, hEN⟩ : ∃ z, enV m xs (q1 m k1) = z := ⟨_, rfl⟩
  rw [hEN] at HTX HRW HSM HRL
  clear hEN
  obtain ⟨PT, hPT⟩ : ∃ z, ptN m xs k1 = z := ⟨_, rfl⟩
  rw [hPT] at HTX HPT
  clear hPT
  obtain ⟨TX, hTXe⟩ : ∃ z, rTX m xs k1 = z := ⟨_, rfl⟩
  rw [hTXe] at HTX HFS HFL HF0 hexit
  clear hTXe
  obtain ⟨FL, hFL⟩ : ∃ z, fl (List.replicate 64 0) TX = z := ⟨_, rfl⟩
  rw [hFL] at HFS HFL HF0 hexit
  clear hFL
  obtain ⟨S4, hS4⟩ : ∃ z, s4 m xs p3 (n * 4) = z := ⟨_, rfl⟩
  rw [hS4] at HRW hsl hexit E
  clear hS4
  go_loopw [31] (fun ii wr => ∃ (i : Nat), i ≤ 16 ∧ ii = .int .i64 i ∧ Hid (Kn w [.row g25 35 (i64s (SS)), .row g24 35 (i64s (FS)), .row gs 25 (i64s (S4)), .row g59 59 [.slice A 16 c, .int .i64 ((pz : Nat) : Int)], .row g6 54 [.int .i64 (m.P : Int), .int .i64 (m.W : Int), .int .i64 (m.T : Int), .int .i64 (m.C : Int), .int .i64 (m.L : Int), .int .i64 (m.A : Int), .int .i64 (m.E : Int), .int .i64 (m.O : Int), .int .i64 (m.F : Int), .int .i64 (m.S : Int)], .row g4 27 (i64s (FL i)), .row g2 27 (i64s Bc.z64)] [bsF A 16 xs] wr)) (fun ii _ => 16 - (intOf ii).toNat)
  case atStart => exact ⟨0, by omega, rfl, by rw [HF0.out]; exact E⟩
  case round =>
    clear E
    obtain ⟨i, hi, rfl, E⟩ := hrel
    by_cases hlt : i < 16
    · have hin : (i : Int) < 16 := by omega
      have hxf := HXF.out i hlt
      have hxs := Lib.hid (fun hs => HXS.out hs i hlt)
      have htx := HTX.out i hlt
      obtain ⟨hpt, hptP⟩ := HPT.out i hlt
      have hfs := HFS.out i
      have hfl := HFL.out i
      have hcN := HcN.out i
      have hcB := HcB.out
      have haN := HaN.out i
      have haB := HaB.out
      have hlF := HlF.out i
      have hlS := HlS.out i
      have hnn := hn.out
      clear HXF HXS HTX HPT HFS HFL HcN HcB HaN HaB HlF HlS HF0 hexit
      obtain ⟨pt, hpte⟩ : ∃ z, PT i = z := ⟨_, rfl⟩
      rw [hpte] at hpt hptP htx
      clear hpte
      obtain ⟨f, hfe⟩ : ∃ z, FN i = z := ⟨_, rfl⟩
      rw [hfe] at hxf hcN haN hlF
      clear hfe
      obtain ⟨s, hse⟩ : ∃ z, SN i = z := ⟨_, rfl⟩
      rw [hse] at hxs hcN haN hlS
      clear hse
      obtain ⟨cn, hcn⟩ : ∃ z, CN i = z := ⟨_, rfl⟩
      rw [hcn] at hcN htx
      clear hcn
      obtain ⟨an, han⟩ : ∃ z, AN i = z := ⟨_, rfl⟩
      rw [han] at haN htx
      clear han
      have hcn2 : cn < 2 ^ CB ∧ 2 ≤ CB ∧ CB ≤ 4 := by
        rw [hcN, hcB]
        by_cases h : (ch : Int) = 1
        · have := hCS h
          rw [if_pos h, if_pos h]; exact ⟨hlS, by omega, by omega⟩
        · rw [if_neg h, if_neg h]; exact ⟨hlF, by omega, by omega⟩
      have han2 : an < 2 ^ AB ∧ 2 ≤ AB ∧ AB ≤ 4 := by
        rw [haN, haB]
        by_cases h : (ch : Int) = 1
        · rw [if_pos h, if_pos h]; exact ⟨hlF, by omega, by omega⟩
        · rw [if_neg h, if_neg h]
          by_cases h0 : m.S = 0
          · rw [if_pos h0, if_pos h0]; exact ⟨hlF, by omega, by omega⟩
          · rw [if_neg h0, if_neg h0]; exact ⟨hlS, by omega, by omega⟩
      obtain ⟨p2, hp2⟩ : ∃ z, 2 * pt = z := ⟨_, rfl⟩
      obtain ⟨p21, hp21⟩ : ∃ z, p2 + 1 = z := ⟨_, rfl⟩
      have hr0 := HRW.out p2 (by omega)
      have hr1 := HRW.out p21 (by omega)
      have hl0 := HRL.out p2 (by omega)
      have hl1 := HRL.out p21 (by omega)
      have hs0 := HSM.out (p2 * 4)
      have hs1 := HSM.out (p21 * 4)
      rw [hp2, hp21] at htx
      obtain ⟨ra, hra⟩ : ∃ z, (EN.drop (p2 * 4)).take 4 = z := ⟨_, rfl⟩
      obtain ⟨rb, hrb⟩ : ∃ z, (EN.drop (p21 * 4)).take 4 = z := ⟨_, rfl⟩
      rw [hra] at hr0 hl0 hs0 htx
      rw [hrb] at hr1 hl1 hs1 htx
      clear hra hrb HRW HRL HSM
      have e1 : wrap64 (2 * (pt : Int)) = (p2 : Int) := by rw [wrap64_small _ (by omega) (by omega)]; omega
      have e2 : 2 * (pt : Int) = (p2 : Int) := by omega
      have e3 : wrap64 ((p2 : Int) + 1) = (p21 : Int) := by rw [wrap64_small _ (by omega) (by omega)]; omega
      have e4 : (p2 : Int) + 1 = (p21 : Int) := by omega
      have b1 : (p2 : Int) < (n : Int) := by omega
      have b2 : (p21 : Int) < (n : Int) := by omega
      have b3 : p2 * 4 + 4 ≤ S4.length := by rw [hsl.out]; omega
      have b4 : p21 * 4 + 4 ≤ S4.length := by rw [hsl.out]; omega
      have hPt := Lib.hid (fun u => show Calls Tryd.prog 29 #[.int .i64 (m.P : Int), .int .i64 (wy : Int), .int .i64 (i : Int)] u (fun e w' => e = .returned (.int .i64 (pt : Int)) ∧ Below u.heap.size u w') from by rw [← hpt]; exact rpart_any _ _ _ u)
      obtain ⟨wc, hwc⟩ : ∃ z, (wl CB).getD cn 0 = z := ⟨_, rfl⟩
      obtain ⟨wa, hwa⟩ : ∃ z, (wl AB).getD an 0 = z := ⟨_, rfl⟩
      rw [hwc, hwa, ← mixF_bt] at htx
      have HMX := Lib.hid (fun c2 (hc : c2 < 3) u => show Calls Tryd.prog 30 #[.int .i64 (ra.getD c2 0), .int .i64 (rb.getD c2 0), .int .i64 (cn : Int), .int .i64 (CB : Int)] u (fun e w' => e = .returned (.int .i64 (mixF ra rb wc wa c2)) ∧ Below u.heap.size u w') from by
        have h := rmix7 (ra.getD c2 0) (rb.getD c2 0) cn CB u (hs0 c2) (hs1 c2) hcn2.2.1 hcn2.2.2 hcn2.1
        rw [hwc] at h
        unfold mixF
        rw [if_neg (by omega)]
        exact h)
      have HMA := Lib.hid (fun u => show Calls Tryd.prog 30 #[.int .i64 (ra.getD 3 0), .int .i64 (rb.getD 3 0), .int .i64 (an : Int), .int .i64 (AB : Int)] u (fun e w' => e = .returned (.int .i64 (mixF ra rb wc wa 3)) ∧ Below u.heap.size u w') from by
        have h := rmix7 (ra.getD 3 0) (rb.getD 3 0) an AB u (hs0 3) (hs1 3) han2.2.1 han2.2.2 han2.1
        rw [hwa] at h
        exact h)
      obtain ⟨mf, hmf⟩ : ∃ z, mixF ra rb wc wa = z := ⟨_, rfl⟩
      rw [hmf] at HMX HMA htx
      clear hwc hwa hmf hpt hptP hp2 hp21 hcn2 han2 hlF hlS hs0 hs1
      obtain ⟨O, hO⟩ : ∃ z, FL i = z := ⟨_, rfl⟩
      rw [hO] at hfs hfl E
      clear hO
      rw [htx] at hfs
      clear htx
      have HOL := Lib.hid (fun c2 => show (oP O (i * 4) mf c2).length = 64 from by rw [oP_length, hfl])
      have HOG := Lib.hid (oP_getD O (i * 4) mf (by omega))
      have HOS := Lib.hid (fun c2 => show (oP O (i * 4) mf c2).set (i * 4 + c2) (mf c2) = oP O (i * 4) mf (c2 + 1) from rfl)
      have HO0 := Lib.hid (fun (h : tn = 0) => show FL (i + 1) = oP O (i * 4) mf 4 from by rw [hfs, h]; exact (oP_turn0 O (i * 4) mf (by omega)).symm)
      have HO1 := Lib.hid (fun t (h : tn = t + 1) => show FL (i + 1) = ((oP O (i * 4) mf 4).set (i * 4 + 3) (mf t)).set (i * 4 + t) (mf 3) from by rw [hfs, h]; exact (oP_turn O (i * 4) mf t (by omega) (by omega)).symm)
      have hfli : FL i = FL i := rfl
      obtain ⟨OP, hOP⟩ : ∃ z, oP O (i * 4) mf = z := ⟨_, rfl⟩
      have hO0 : O = OP 0 := by rw [← hOP]; rfl
      rw [hOP] at HOL HOG HOS HO0 HO1
      rw [hO0] at E
      clear hfs hfl hfli hOP
      replace hr0 := Lib.hid hr0
      replace hr1 := Lib.hid hr1
      replace hxf := Lib.hid hxf
      replace hcN := Lib.hid hcN
      replace hcB := Lib.hid hcB
      replace haN := Lib.hid haN
      replace haB := Lib.hid haB
      replace hO0 := Lib.hid hO0
      replace hl0 := Lib.hid hl0
      replace hl1 := Lib.hid hl1
      replace hCS := Lib.hid hCS
      clear hnn
      go_upto_if 301 with (first
        | (go_at_call 29; (with_reducible refine (hPt.out _).mono ?_); clear hPt; rintro e w1 ⟨rfl, hb⟩; have E1 := Lib.hid (E.out.later hb); clear hb E; have E := E1; clear E1)
        | ((with_reducible refine kn_loadp (g := gs) (off := p2 * 4) E.out rfl rfl rfl ?hl ?_); (case hl => exact b3); rw [hr0.out])
        | ((with_reducible refine kn_loadp (g := gs) (off := p21 * 4) E.out rfl rfl rfl ?hl ?_); (case hl => exact b4); rw [hr1.out])
        | ((with_reducible refine kn_stores (g := g33) (vs := i64s ra) E.out rfl rfl rfl rfl rfl ?hl ?h1 ?_); (case hl => exact ⟨rfl, by rw [i64s_length]; exact hl0.out⟩); (case h1 => exact i64s_one _); clear E; intro u E0; have E := Lib.hid E0; clear E0)
        | ((with_reducible refine kn_stores (g := g34) (vs := i64s rb) E.out rfl rfl rfl rfl rfl ?hl ?h1 ?_); (case hl => exact ⟨rfl, by rw [i64s_length]; exact hl1.out⟩); (case h1 => exact i64s_one _); clear E; intro u E0; have E := Lib.hid E0; clear E0)
        | ((with_reducible refine kn_loadi (g := g24) (i := i) E.out rfl rfl rfl ?hi ?_); (case hi => have := hxfl.out; omega); rw [hxf.out])
        | ((with_reducible refine kn_load E.out rfl rfl rfl rfl ?_)) | ((with_reducible refine kn_load_if E.out rfl rfl rfl rfl ?_)) | ((with_reducible refine kn_loads E.out rfl rfl rfl ?_ ?_); (focus (first | rfl | (simp only [i64s_length, u8s_length]; first | rfl | assumption | omega)))) | ((with_reducible refine kn_loads_if E.out rfl rfl rfl ?_ ?_); (focus (first | rfl | (simp only [i64s_length, u8s_length]; first | rfl | assumption | omega)))) | ((with_reducible refine kn_store1_int E.out rfl rfl rfl rfl rfl ?_); clear E; intro u E0; have E := Lib.hid E0; clear E0) | ((with_reducible refine kn_store1_slice E.out rfl rfl rfl rfl rfl ?_); clear E; intro u E0; have E := Lib.hid E0; clear E0) | ((with_reducible refine kn_store1_bool E.out rfl rfl rfl rfl rfl ?_); clear E; intro u E0; have E := Lib.hid E0; clear E0) | ((with_reducible refine kn_stores E.out rfl rfl rfl rfl rfl ?_ ?_ ?_); (focus (first | exact ⟨rfl, rfl⟩ | (simp only [i64s_length, u8s_length]; refine ⟨?_, ?_⟩ <;> first | rfl | assumption | omega))); (focus (first | exact i64s_one _ | exact u8s_one _ | simp [Value.oneCell'])); clear E; intro u E0; have E := Lib.hid E0; clear E0) | ((with_reducible refine kn_alloc (o := ⟨some 33, _, _, _, _, _⟩) E.out rfl rfl ?_); clear E; intro g33 u E0 hb0; have E := Lib.hid E0; clear E0 hb0) | ((with_reducible refine kn_box (o := ⟨some 33, _, _, _, _, _⟩) E.out rfl rfl rfl ?_); clear E; intro g33 u E0 hb0; have E := Lib.hid E0; clear E0 hb0) | ((with_reducible refine kn_box_int (o := ⟨some 33, _, _, _, _, _⟩) E.out rfl rfl rfl ?_); clear E; intro g33 u E0 hb0; have E := Lib.hid E0; clear E0 hb0) | ((with_reducible refine kn_box_slice (o := ⟨some 33, _, _, _, _, _⟩) E.out rfl rfl rfl ?_); clear E; intro g33 u E0 hb0; have E := Lib.hid E0; clear E0 hb0) | ((with_reducible refine kn_box_bool (o := ⟨some 33, _, _, _, _, _⟩) E.out rfl rfl rfl ?_); clear E; intro g33 u E0 hb0; have E := Lib.hid E0; clear E0 hb0) | ((with_reducible refine kn_box_func (o := ⟨some 33, _, _, _, _, _⟩) E.out rfl rfl rfl ?_); clear E; intro g33 u E0 hb0; have E := Lib.hid E0; clear E0 hb0) | ((with_reducible refine kn_alloc (o := ⟨some 34, _, _, _, _, _⟩) E.out rfl rfl ?_); clear E; intro g34 u E0 hb0; have E := Lib.hid E0; clear E0 hb0) | ((with_reducible refine kn_box (o := ⟨some 34, _, _, _, _, _⟩) E.out rfl rfl rfl ?_); clear E; intro g34 u E0 hb0; have E := Lib.hid E0; clear E0 hb0) | ((with_reducible refine kn_box_int (o := ⟨some 34, _, _, _, _, _⟩) E.out rfl rfl rfl ?_); clear E; intro g34 u E0 hb0; have E := Lib.hid E0; clear E0 hb0) | ((with_reducible refine kn_box_slice (o := ⟨some 34, _, _, _, _, _⟩) E.out rfl rfl rfl ?_); clear E; intro g34 u E0 hb0; have E := Lib.hid E0; clear E0 hb0) | ((with_reducible refine kn_box_bool (o := ⟨some 34, _, _, _, _, _⟩) E.out rfl rfl rfl ?_); clear E; intro g34 u E0 hb0; have E := Lib.hid E0; clear E0 hb0) | ((with_reducible refine kn_box_func (o := ⟨some 34, _, _, _, _, _⟩) E.out rfl rfl rfl ?_); clear E; intro g34 u E0 hb0; have E := Lib.hid E0; clear E0 hb0) | ((with_reducible refine kn_alloc E.out rfl rfl ?_); clear E; intro g u E0 hb0; have E := Lib.hid E0; clear E0 hb0) | ((with_reducible refine kn_box E.out rfl rfl rfl ?_); clear E; intro g u E0 hb0; have E := Lib.hid E0; clear E0 hb0) | ((with_reducible refine kn_box_int E.out rfl rfl rfl ?_); clear E; intro g u E0 hb0; have E := Lib.hid E0; clear E0 hb0) | ((with_reducible refine kn_box_slice E.out rfl rfl rfl ?_); clear E; intro g u E0 hb0; have E := Lib.hid E0; clear E0 hb0) | ((with_reducible refine kn_box_bool E.out rfl rfl rfl ?_); clear E; intro g u E0 hb0; have E := Lib.hid E0; clear E0 hb0) | ((with_reducible refine kn_box_func E.out rfl rfl rfl ?_); clear E; intro g u E0 hb0; have E := Lib.hid E0; clear E0 hb0))
      go_cut [37, 38] from 269 to 366 (fun s37 s38 wx => s37 = .int .i64 ((if m.S = 0 then f else s : Nat) : Int) ∧ s38 = .int .i64 ((if m.S = 0 then m.F else m.S : Nat) : Int) ∧ Hid (Kn w [.row g34 25 (i64s rb), .row g33 25 (i64s ra), .row g25 35 (i64s (SS)), .row g24 35 (i64s (FS)), .row gs 25 (i64s (S4)), .row g59 59 [.slice A 16 c, .int .i64 ((pz : Nat) : Int)], .row g6 54 [.int .i64 (m.P : Int), .int .i64 (m.W : Int), .int .i64 (m.T : Int), .int .i64 (m.C : Int), .int .i64 (m.L : Int), .int .i64 (m.A : Int), .int .i64 (m.E : Int), .int .i64 (m.O : Int), .int .i64 (m.F : Int), .int .i64 (m.S : Int)], .row g4 27 (i64s (OP 0)), .row g2 27 (i64s Bc.z64)] [bsF A 16 xs] wx))
      case first =>
        clear HMX HMA HOL HOG HOS HO0 HO1 hO0
        by_cases hS : m.S = 0
        · have hSi : ¬ ((0 : Int) < (m.S : Int)) := by omega
          have hSb : decide ((m.S : Int) > 0) = false := decide_eq_false (by omega)
          have v1 := Lib.hid (show (if m.S = 0 then f else s) = f from if_pos hS)
          have v2 := Lib.hid (show (if m.S = 0 then m.F else m.S) = m.F from if_pos hS)
          clear hS
          go_wp2_with (first | ((with_reducible refine kn_load E.out rfl rfl rfl rfl ?_)) | ((with_reducible refine kn_load_if E.out rfl rfl rfl rfl ?_)) | ((with_reducible refine kn_loads E.out rfl rfl rfl ?_ ?_); (focus (first | rfl | (simp only [i64s_length, u8s_length]; first | rfl | assumption | omega)))) | ((with_reducible refine kn_loads_if E.out rfl rfl rfl ?_ ?_); (focus (first | rfl | (simp only [i64s_length, u8s_length]; first | rfl | assumption | omega)))) | ((with_reducible refine kn_store1_int E.out rfl rfl rfl rfl rfl ?_); clear E; intro u E0; have E := Lib.hid E0; clear E0) | ((with_reducible refine kn_store1_slice E.out rfl rfl rfl rfl rfl ?_); clear E; intro u E0; have E := Lib.hid E0; clear E0) | ((with_reducible refine kn_store1_bool E.out rfl rfl rfl rfl rfl ?_); clear E; intro u E0; have E := Lib.hid E0; clear E0) | ((with_reducible refine kn_stores E.out rfl rfl rfl rfl rfl ?_ ?_ ?_); (focus (first | exact ⟨rfl, rfl⟩ | (simp only [i64s_length, u8s_length]; refine ⟨?_, ?_⟩ <;> first | rfl | assumption | omega))); (focus (first | exact i64s_one _ | exact u8s_one _ | simp [Value.oneCell'])); clear E; intro u E0; have E := Lib.hid E0; clear E0) | ((with_reducible refine kn_alloc E.out rfl rfl ?_); clear E; intro g u E0 hb0; have E := Lib.hid E0; clear E0 hb0) | ((with_reducible refine kn_box E.out rfl rfl rfl ?_); clear E; intro g u E0 hb0; have E := Lib.hid E0; clear E0 hb0) | ((with_reducible refine kn_box_int E.out rfl rfl rfl ?_); clear E; intro g u E0 hb0; have E := Lib.hid E0; clear E0 hb0) | ((with_reducible refine kn_box_slice E.out rfl rfl rfl ?_); clear E; intro g u E0 hb0; have E := Lib.hid E0; clear E0 hb0) | ((with_reducible refine kn_box_bool E.out rfl rfl rfl ?_); clear E; intro g u E0 hb0; have E := Lib.hid E0; clear E0 hb0) | ((with_reducible refine kn_box_func E.out rfl rfl rfl ?_); clear E; intro g u E0 hb0; have E := Lib.hid E0; clear E0 hb0))
          go_meet
          exact ⟨by rw [v1.out], by rw [v2.out], E⟩
        · have hSi : (0 : Int) < (m.S : Int) := by omega
          have hSb : decide ((m.S : Int) > 0) = true := decide_eq_true (by omega)
          have v1 := Lib.hid (show (if m.S = 0 then f else s) = s from if_neg hS)
          have v2 := Lib.hid (show (if m.S = 0 then m.F else m.S) = m.S from if_neg hS)
          have hx := Lib.hid (hxs.out hS)
          clear hS
          go_wp2_with (first
            | ((with_reducible refine kn_loadi (g := g25) (i := i) E.out rfl rfl rfl ?hi ?_); (case hi => have := hxsl.out; omega); rw [hx.out])
            | ((with_reducible refine kn_load E.out rfl rfl rfl rfl ?_)) | ((with_reducible refine kn_load_if E.out rfl rfl rfl rfl ?_)) | ((with_reducible refine kn_loads E.out rfl rfl rfl ?_ ?_); (focus (first | rfl | (simp only [i64s_length, u8s_length]; first | rfl | assumption | omega)))) | ((with_reducible refine kn_loads_if E.out rfl rfl rfl ?_ ?_); (focus (first | rfl | (simp only [i64s_length, u8s_length]; first | rfl | assumption | omega)))) | ((with_reducible refine kn_store1_int E.out rfl rfl rfl rfl rfl ?_); clear E; intro u E0; have E := Lib.hid E0; clear E0) | ((with_reducible refine kn_store1_slice E.out rfl rfl rfl rfl rfl ?_); clear E; intro u E0; have E := Lib.hid E0; clear E0) | ((with_reducible refine kn_store1_bool E.out rfl rfl rfl rfl rfl ?_); clear E; intro u E0; have E := Lib.hid E0; clear E0) | ((with_reducible refine kn_stores E.out rfl rfl rfl rfl rfl ?_ ?_ ?_); (focus (first | exact ⟨rfl, rfl⟩ | (simp only [i64s_length, u8s_length]; refine ⟨?_, ?_⟩ <;> first | rfl | assumption | omega))); (focus (first | exact i64s_one _ | exact u8s_one _ | simp [Value.oneCell'])); clear E; intro u E0; have E := Lib.hid E0; clear E0) | ((with_reducible refine kn_alloc E.out rfl rfl ?_); clear E; intro g u E0 hb0; have E := Lib.hid E0; clear E0 hb0) | ((with_reducible refine kn_box E.out rfl rfl rfl ?_); clear E; intro g u E0 hb0; have E := Lib.hid E0; clear E0 hb0) | ((with_reducible refine kn_box_int E.out rfl rfl rfl ?_); clear E; intro g u E0 hb0; have E := Lib.hid E0; clear E0 hb0) | ((with_reducible refine kn_box_slice E.out rfl rfl rfl ?_); clear E; intro g u E0 hb0; have E := Lib.hid E0; clear E0 hb0) | ((with_reducible refine kn_box_bool E.out rfl rfl rfl ?_); clear E; intro g u E0 hb0; have E := Lib.hid E0; clear E0 hb0) | ((with_reducible refine kn_box_func E.out rfl rfl rfl ?_); clear E; intro g u E0 hb0; have E := Lib.hid E0; clear E0 hb0))
          go_meet
          exact ⟨by rw [v1.out], by rw [v2.out], E⟩
      case rest =>
        clear E
        obtain ⟨rfl, rfl, E⟩ := hcut
        obtain ⟨a0, ha0⟩ : ∃ z, (if m.S = 0 then f else s) = z := ⟨_, rfl⟩
        obtain ⟨ab0, hab0⟩ : ∃ z, (if m.S = 0 then m.F else m.S) = z := ⟨_, rfl⟩
        rw [ha0] at haN ⊢
        rw [hab0] at haB ⊢
        replace ha0 := Lib.hid ha0
        replace hab0 := Lib.hid hab0
        go_upto_if 308 with (first | ((with_reducible refine kn_load E.out rfl rfl rfl rfl ?_)) | ((with_reducible refine kn_load_if E.out rfl rfl rfl rfl ?_)) | ((with_reducible refine kn_loads E.out rfl rfl rfl ?_ ?_); (focus (first | rfl | (simp only [i64s_length, u8s_length]; first | rfl | assumption | omega)))) | ((with_reducible refine kn_loads_if E.out rfl rfl rfl ?_ ?_); (focus (first | rfl | (simp only [i64s_length, u8s_length]; first | rfl | assumption | omega)))) | ((with_reducible refine kn_store1_int E.out rfl rfl rfl rfl rfl ?_); clear E; intro u E0; have E := Lib.hid E0; clear E0) | ((with_reducible refine kn_store1_slice E.out rfl rfl rfl rfl rfl ?_); clear E; intro u E0; have E := Lib.hid E0; clear E0) | ((with_reducible refine kn_store1_bool E.out rfl rfl rfl rfl rfl ?_); clear E; intro u E0; have E := Lib.hid E0; clear E0) | ((with_reducible refine kn_stores E.out rfl rfl rfl rfl rfl ?_ ?_ ?_); (focus (first | exact ⟨rfl, rfl⟩ | (simp only [i64s_length, u8s_length]; refine ⟨?_, ?_⟩ <;> first | rfl | assumption | omega))); (focus (first | exact i64s_one _ | exact u8s_one _ | simp [Value.oneCell'])); clear E; intro u E0; have E := Lib.hid E0; clear E0) | ((with_reducible refine kn_alloc E.out rfl rfl ?_); clear E; intro g u E0 hb0; have E := Lib.hid E0; clear E0 hb0) | ((with_reducible refine kn_box E.out rfl rfl rfl ?_); clear E; intro g u E0 hb0; have E := Lib.hid E0; clear E0 hb0) | ((with_reducible refine kn_box_int E.out rfl rfl rfl ?_); clear E; intro g u E0 hb0; have E := Lib.hid E0; clear E0 hb0) | ((with_reducible refine kn_box_slice E.out rfl rfl rfl ?_); clear E; intro g u E0 hb0; have E := Lib.hid E0; clear E0 hb0) | ((with_reducible refine kn_box_bool E.out rfl rfl rfl ?_); clear E; intro g u E0 hb0; have E := Lib.hid E0; clear E0 hb0) | ((with_reducible refine kn_box_func E.out rfl rfl rfl ?_); clear E; intro g u E0 hb0; have E := Lib.hid E0; clear E0 hb0))
        go_cut [35, 36, 37, 38] from 269 to 366 (fun s35 s36 s37 s38 wx => s35 = .int .i64 (cn : Int) ∧ s36 = .int .i64 (CB : Int) ∧ s37 = .int .i64 (an : Int) ∧ s38 = .int .i64 (AB : Int) ∧ Hid (Kn w [.row g34 25 (i64s rb), .row g33 25 (i64s ra), .row g25 35 (i64s (SS)), .row g24 35 (i64s (FS)), .row gs 25 (i64s (S4)), .row g59 59 [.slice A 16 c, .int .i64 ((pz : Nat) : Int)], .row g6 54 [.int .i64 (m.P : Int), .int .i64 (m.W : Int), .int .i64 (m.T : Int), .int .i64 (m.C : Int), .int .i64 (m.L : Int), .int .i64 (m.A : Int), .int .i64 (m.E : Int), .int .i64 (m.O : Int), .int .i64 (m.F : Int), .int .i64 (m.S : Int)], .row g4 27 (i64s (OP 0)), .row g2 27 (i64s Bc.z64)] [bsF A 16 xs] wx))
        case first =>
          clear HMX HMA HOL HOG HOS HO0 HO1 hO0
          by_cases hC : (ch : Int) = 1
          · have hCb : ((ch : Int) == 1) = true := by rw [hC]; rfl
            have hx := Lib.hid (hxs.out (hCS.out hC))
            have v1 := Lib.hid (hcN.out.trans (if_pos hC))
            have v2 := Lib.hid (hcB.out.trans (if_pos hC))
            have v3 := Lib.hid (haN.out.trans (if_pos hC))
            have v4 := Lib.hid (haB.out.trans (if_pos hC))
            clear hC
            go_wp2_with (first
              | ((with_reducible refine kn_loadi (g := g25) (i := i) E.out rfl rfl rfl ?hi ?_); (case hi => have := hxsl.out; omega); rw [hx.out])
              | ((with_reducible refine kn_loadi (g := g24) (i := i) E.out rfl rfl rfl ?hi ?_); (case hi => have := hxfl.out; omega); rw [hxf.out])
              | ((with_reducible refine kn_load E.out rfl rfl rfl rfl ?_)) | ((with_reducible refine kn_load_if E.out rfl rfl rfl rfl ?_)) | ((with_reducible refine kn_loads E.out rfl rfl rfl ?_ ?_); (focus (first | rfl | (simp only [i64s_length, u8s_length]; first | rfl | assumption | omega)))) | ((with_reducible refine kn_loads_if E.out rfl rfl rfl ?_ ?_); (focus (first | rfl | (simp only [i64s_length, u8s_length]; first | rfl | assumption | omega)))) | ((with_reducible refine kn_store1_int E.out rfl rfl rfl rfl rfl ?_); clear E; intro u E0; have E := Lib.hid E0; clear E0) | ((with_reducible refine kn_store1_slice E.out rfl rfl rfl rfl rfl ?_); clear E; intro u E0; have E := Lib.hid E0; clear E0) | ((with_reducible refine kn_store1_bool E.out rfl rfl rfl rfl rfl ?_); clear E; intro u E0; have E := Lib.hid E0; clear E0) | ((with_reducible refine kn_stores E.out rfl rfl rfl rfl rfl ?_ ?_ ?_); (focus (first | exact ⟨rfl, rfl⟩ | (simp only [i64s_length, u8s_length]; refine ⟨?_, ?_⟩ <;> first | rfl | assumption | omega))); (focus (first | exact i64s_one _ | exact u8s_one _ | simp [Value.oneCell'])); clear E; intro u E0; have E := Lib.hid E0; clear E0) | ((with_reducible refine kn_alloc E.out rfl rfl ?_); clear E; intro g u E0 hb0; have E := Lib.hid E0; clear E0 hb0) | ((with_reducible refine kn_box E.out rfl rfl rfl ?_); clear E; intro g u E0 hb0; have E := Lib.hid E0; clear E0 hb0) | ((with_reducible refine kn_box_int E.out rfl rfl rfl ?_); clear E; intro g u E0 hb0; have E := Lib.hid E0; clear E0 hb0) | ((with_reducible refine kn_box_slice E.out rfl rfl rfl ?_); clear E; intro g u E0 hb0; have E := Lib.hid E0; clear E0 hb0) | ((with_reducible refine kn_box_bool E.out rfl rfl rfl ?_); clear E; intro g u E0 hb0; have E := Lib.hid E0; clear E0 hb0) | ((with_reducible refine kn_box_func E.out rfl rfl rfl ?_); clear E; intro g u E0 hb0; have E := Lib.hid E0; clear E0 hb0))
            go_meet
            exact ⟨by rw [v1.out], by rw [v2.out], by rw [v3.out], by rw [v4.out], E⟩
          · have hCb : ((ch : Int) == 1) = false := beq_eq_false_iff_ne.2 hC
            have v1 := Lib.hid (hcN.out.trans (if_neg hC))
            have v2 := Lib.hid (hcB.out.trans (if_neg hC))
            have v3 := Lib.hid (haN.out.trans (if_neg hC))
            have v4 := Lib.hid (haB.out.trans (if_neg hC))
            clear hC
            go_wp2_with (first | ((with_reducible refine kn_load E.out rfl rfl rfl rfl ?_)) | ((with_reducible refine kn_load_if E.out rfl rfl rfl rfl ?_)) | ((with_reducible refine kn_loads E.out rfl rfl rfl ?_ ?_); (focus (first | rfl | (simp only [i64s_length, u8s_length]; first | rfl | assumption | omega)))) | ((with_reducible refine kn_loads_if E.out rfl rfl rfl ?_ ?_); (focus (first | rfl | (simp only [i64s_length, u8s_length]; first | rfl | assumption | omega)))) | ((with_reducible refine kn_store1_int E.out rfl rfl rfl rfl rfl ?_); clear E; intro u E0; have E := Lib.hid E0; clear E0) | ((with_reducible refine kn_store1_slice E.out rfl rfl rfl rfl rfl ?_); clear E; intro u E0; have E := Lib.hid E0; clear E0) | ((with_reducible refine kn_store1_bool E.out rfl rfl rfl rfl rfl ?_); clear E; intro u E0; have E := Lib.hid E0; clear E0) | ((with_reducible refine kn_stores E.out rfl rfl rfl rfl rfl ?_ ?_ ?_); (focus (first | exact ⟨rfl, rfl⟩ | (simp only [i64s_length, u8s_length]; refine ⟨?_, ?_⟩ <;> first | rfl | assumption | omega))); (focus (first | exact i64s_one _ | exact u8s_one _ | simp [Value.oneCell'])); clear E; intro u E0; have E := Lib.hid E0; clear E0) | ((with_reducible refine kn_alloc E.out rfl rfl ?_); clear E; intro g u E0 hb0; have E := Lib.hid E0; clear E0 hb0) | ((with_reducible refine kn_box E.out rfl rfl rfl ?_); clear E; intro g u E0 hb0; have E := Lib.hid E0; clear E0 hb0) | ((with_reducible refine kn_box_int E.out rfl rfl rfl ?_); clear E; intro g u E0 hb0; have E := Lib.hid E0; clear E0 hb0) | ((with_reducible refine kn_box_slice E.out rfl rfl rfl ?_); clear E; intro g u E0 hb0; have E := Lib.hid E0; clear E0 hb0) | ((with_reducible refine kn_box_bool E.out rfl rfl rfl ?_); clear E; intro g u E0 hb0; have E := Lib.hid E0; clear E0 hb0) | ((with_reducible refine kn_box_func E.out rfl rfl rfl ?_); clear E; intro g u E0 hb0; have E := Lib.hid E0; clear E0 hb0))
            go_meet
            exact ⟨by rw [v1.out], by rw [v2.out], by rw [v3.out], by rw [v4.out], E⟩
        case rest =>
          clear E
          obtain ⟨rfl, rfl, rfl, rfl, E⟩ := hcut
          clear hxf hxs hcN hcB haN haB ha0 hab0 hCS hr0 hr1
          go_wp2_with (first | ((with_reducible refine kn_load E.out rfl rfl rfl rfl ?_)) | ((with_reducible refine kn_load_if E.out rfl rfl rfl rfl ?_)) | ((with_reducible refine kn_loads E.out rfl rfl rfl ?_ ?_); (focus (first | rfl | (simp only [i64s_length, u8s_length]; first | rfl | assumption | omega)))) | ((with_reducible refine kn_loads_if E.out rfl rfl rfl ?_ ?_); (focus (first | rfl | (simp only [i64s_length, u8s_length]; first | rfl | assumption | omega)))) | ((with_reducible refine kn_store1_int E.out rfl rfl rfl rfl rfl ?_); clear E; intro u E0; have E := Lib.hid E0; clear E0) | ((with_reducible refine kn_store1_slice E.out rfl rfl rfl rfl rfl ?_); clear E; intro u E0; have E := Lib.hid E0; clear E0) | ((with_reducible refine kn_store1_bool E.out rfl rfl rfl rfl rfl ?_); clear E; intro u E0; have E := Lib.hid E0; clear E0) | ((with_reducible refine kn_stores E.out rfl rfl rfl rfl rfl ?_ ?_ ?_); (focus (first | exact ⟨rfl, rfl⟩ | (simp only [i64s_length, u8s_length]; refine ⟨?_, ?_⟩ <;> first | rfl | assumption | omega))); (focus (first | exact i64s_one _ | exact u8s_one _ | simp [Value.oneCell'])); clear E; intro u E0; have E := Lib.hid E0; clear E0) | ((with_reducible refine kn_alloc E.out rfl rfl ?_); clear E; intro g u E0 hb0; have E := Lib.hid E0; clear E0 hb0) | ((with_reducible refine kn_box E.out rfl rfl rfl ?_); clear E; intro g u E0 hb0; have E := Lib.hid E0; clear E0 hb0) | ((with_reducible refine kn_box_int E.out rfl rfl rfl ?_); clear E; intro g u E0 hb0; have E := Lib.hid E0; clear E0 hb0) | ((with_reducible refine kn_box_slice E.out rfl rfl rfl ?_); clear E; intro g u E0 hb0; have E := Lib.hid E0; clear E0 hb0) | ((with_reducible refine kn_box_bool E.out rfl rfl rfl ?_); clear E; intro g u E0 hb0; have E := Lib.hid E0; clear E0 hb0) | ((with_reducible refine kn_box_func E.out rfl rfl rfl ?_); clear E; intro g u E0 hb0; have E := Lib.hid E0; clear E0 hb0))
          refine wp_only' (rd13 m A c xs w _ gs g59 g6 g4 g2 n g24 g25 g33 g34 pz i cn CB ra rb S4 FS SS OP mf hlt hl0 hl1 HMX HOL HOS _ _ _ _ _ _ _ _ _ _ _ _ _ _ _ _ _ _ _ _ _ _ _ _ _ _ _ _ _ _ _ _ _ _ _ _ _ _ _ _ _ _ _ _ _ _ _ _ _ _ _ _ _ _ _ _ _ _ _ _ _ _ _ _ _ _ _ _ _ _ _ _ _ _ _ _ _ _ _ _ _ _ _ _ _ _ _ _ _ _ _ _ _ _ _ _ _ _ _ _ _ _ _ _ _ _ _ _ _ _ _ _ _ _ _ _ _ _ _ _ _ _ _ _ _ _ _ _ _ _ _ _ _ _ _ _ _ _ _ _ _ _ _ _ _ _ _ _ _ _ _ _ _ _ _ _ _ _ _ _ _ _ _ _ _ _ _ _ _ _ _ _ _ _ _ _ _ _ _ _ _ _ _ _ _ _ _ _ _ _ _ _ _ _ _ _ _ _ _ _ _ _ _ _ _ _ _ _ _ _ _ _ _ _ _ _ _ _ _ _ _ _ _ _ _ _ _ _ _ _ _ _ _ _ _ _ _ _ _ _ _ _ _ _ _ _ _ _ _ _ _ _ _ _ _ _ _ _ _ _ _ _ _ _ _ _ _ _ _ _ _ _ _ _ _ _ _ _ _ _ _ _ _ _ _ _ _ _ _ _ _ _ _ _ _ _ _ _ _ _ _ _ _ _ _ _ _ _ _ _ _ _ _ _ _ _ _ _ _ _ _ _ _ _ _ _ _ _ _ _ _ _ _ _ _ _ _ _ _ _ _ _ _ _ _ _ _ _ _ _ _ _ _ _ _ ?_ E)
          clear E
          intro v39 v319 v320 v321 v322 v323 v324 v325 v326 v327 v328 v329 v330 v331 v332 v333 v334 v335 wz E
          have hol := HOL.out 3
          have hol4 := HOL.out 4
          have hos := Lib.hid (show (OP 3).set (i * 4 + 3) (mf 3) = OP 4 from HOS.out 3)
          have hla : 3 < ra.length := by rw [hl0.out]; omega
          have hlb : 3 < rb.length := by rw [hl1.out]; omega
          clear HMX HOL HOS
          have hga := i64s_get ra 3 hla
          have hgb := i64s_get rb 3 hlb
          obtain ⟨va, hva⟩ : ∃ z, ra.getD 3 0 = z := ⟨_, rfl⟩
          obtain ⟨vb, hvb⟩ : ∃ z, rb.getD 3 0 = z := ⟨_, rfl⟩
          rw [hva, hvb] at HMA
          rw [hva] at hga
          rw [hvb] at hgb
          replace hga := Lib.hid hga
          replace hgb := Lib.hid hgb
          clear hva hvb hla hlb
          obtain ⟨m3, hm3⟩ : ∃ z, mf 3 = z := ⟨_, rfl⟩
          rw [hm3] at HMA hos HO1
          replace hm3 := Lib.hid hm3
          go_wp2_with (first | ((with_reducible refine kn_load E.out rfl rfl rfl rfl ?_)) | ((with_reducible refine kn_load_if E.out rfl rfl rfl rfl ?_)) | ((with_reducible refine kn_loads E.out rfl rfl rfl ?_ ?_); (focus (first | rfl | (simp only [i64s_length, u8s_length]; first | rfl | assumption | omega)))) | ((with_reducible refine kn_loads_if E.out rfl rfl rfl ?_ ?_); (focus (first | rfl | (simp only [i64s_length, u8s_length]; first | rfl | assumption | omega)))) | ((with_reducible refine kn_store1_int E.out rfl rfl rfl rfl rfl ?_); clear E; intro u E0; have E := Lib.hid E0; clear E0) | ((with_reducible refine kn_store1_slice E.out rfl rfl rfl rfl rfl ?_); clear E; intro u E0; have E := Lib.hid E0; clear E0) | ((with_reducible refine kn_store1_bool E.out rfl rfl rfl rfl rfl ?_); clear E; intro u E0; have E := Lib.hid E0; clear E0) | ((with_reducible refine kn_stores E.out rfl rfl rfl rfl rfl ?_ ?_ ?_); (focus (first | exact ⟨rfl, rfl⟩ | (simp only [i64s_length, u8s_length]; refine ⟨?_, ?_⟩ <;> first | rfl | assumption | omega))); (focus (first | exact i64s_one _ | exact u8s_one _ | simp [Value.oneCell'])); clear E; intro u E0; have E := Lib.hid E0; clear E0) | ((with_reducible refine kn_alloc E.out rfl rfl ?_); clear E; intro g u E0 hb0; have E := Lib.hid E0; clear E0 hb0) | ((with_reducible refine kn_box E.out rfl rfl rfl ?_); clear E; intro g u E0 hb0; have E := Lib.hid E0; clear E0 hb0) | ((with_reducible refine kn_box_int E.out rfl rfl rfl ?_); clear E; intro g u E0 hb0; have E := Lib.hid E0; clear E0 hb0) | ((with_reducible refine kn_box_slice E.out rfl rfl rfl ?_); clear E; intro g u E0 hb0; have E := Lib.hid E0; clear E0 hb0) | ((with_reducible refine kn_box_bool E.out rfl rfl rfl ?_); clear E; intro g u E0 hb0; have E := Lib.hid E0; clear E0 hb0) | ((with_reducible refine kn_box_func E.out rfl rfl rfl ?_); clear E; intro g u E0 hb0; have E := Lib.hid E0; clear E0 hb0))
          refine wp_region_held_drew (S := Kn w [.row g34 25 (i64s rb), .row g33 25 (i64s ra)] [bsF A 16 xs]) (by kernel_rfl) (E.out.drew.part _ _ (by repeat (first | exact List.Sublist.refl _ | apply List.Sublist.cons_cons | apply List.Sublist.cons)) (by simp)) (fun kS => ?_)
          have E1 := Lib.hid E.out.drew
          generalize World.drew _ = u1 at kS E1 ⊢
          clear E
          have E := E1
          clear E1
          (refine takeL (i := 0) (v := _) rfl (by kernel_rfl) (by kernel_rfl) (by kernel_rfl) (fun _ _ _ h => h) (by first | exact Or.inl ⟨by rfl, (by intro u hSu; clear hSu; go_simp; try with_reducible rfl)⟩ | exact Or.inr ⟨by rfl, rfl⟩) kS ?_; (try simp only [Act.put, List.setIfInBounds_toArray, List.set_cons_zero, List.set_cons_succ])); (refine takeL (i := 1) (v := _) rfl (by kernel_rfl) (by kernel_rfl) (by kernel_rfl) (fun _ _ _ h => h) (by first | exact Or.inl ⟨by rfl, (by intro u hSu; clear hSu; go_simp; try with_reducible rfl)⟩ | exact Or.inr ⟨by rfl, rfl⟩) kS ?_; (try simp only [Act.put, List.setIfInBounds_toArray, List.set_cons_zero, List.set_cons_succ]))
          (refine takeL (i := 2) (v := _) rfl (by kernel_rfl) (by kernel_rfl) (by kernel_rfl) (fun _ _ _ h => h) (yield_load (g := g33) (i := 3) rfl rfl rfl hga.out) kS ?_; (try simp only [Act.put, List.setIfInBounds_toArray, List.set_cons_zero, List.set_cons_succ]))
          (refine takeL (i := 3) (v := _) rfl (by kernel_rfl) (by kernel_rfl) (by kernel_rfl) (fun _ _ _ h => h) (by first | exact Or.inl ⟨by rfl, (by intro u hSu; clear hSu; go_simp; try with_reducible rfl)⟩ | exact Or.inr ⟨by rfl, rfl⟩) kS ?_; (try simp only [Act.put, List.setIfInBounds_toArray, List.set_cons_zero, List.set_cons_succ]))
          (refine takeL (i := 4) (v := _) rfl (by kernel_rfl) (by kernel_rfl) (by kernel_rfl) (fun _ _ _ h => h) (yield_load (g := g34) (i := 3) rfl rfl rfl hgb.out) kS ?_; (try simp only [Act.put, List.setIfInBounds_toArray, List.set_cons_zero, List.set_cons_succ]))
          (refine takeL (i := 5) (v := _) rfl (by kernel_rfl) (by kernel_rfl) (by kernel_rfl) (fun _ _ _ h => h) (by first | exact Or.inl ⟨by rfl, (by intro u hSu; clear hSu; go_simp; try with_reducible rfl)⟩ | exact Or.inr ⟨by rfl, rfl⟩) kS ?_; (try simp only [Act.put, List.setIfInBounds_toArray, List.set_cons_zero, List.set_cons_succ])); (refine takeL (i := 6) (v := _) rfl (by kernel_rfl) (by kernel_rfl) (by kernel_rfl) (fun _ _ _ h => h) (by first | exact Or.inl ⟨by rfl, (by intro u hSu; clear hSu; go_simp; try with_reducible rfl)⟩ | exact Or.inr ⟨by rfl, rfl⟩) kS ?_; (try simp only [Act.put, List.setIfInBounds_toArray, List.set_cons_zero, List.set_cons_succ])); (refine takeL (i := 8) (v := _) rfl (by kernel_rfl) (by kernel_rfl) (by kernel_rfl) (fun _ _ _ h => h) (by first | exact Or.inl ⟨by rfl, (by intro u hSu; clear hSu; go_simp; try with_reducible rfl)⟩ | exact Or.inr ⟨by rfl, rfl⟩) kS ?_; (try simp only [Act.put, List.setIfInBounds_toArray, List.set_cons_zero, List.set_cons_succ]))
          refine callL (i := 7) rfl (by kernel_rfl) (fun K hK => ?_)
          (go_simp; (with_reducible refine (HMA.out _).mono ?_); rintro e' w1 ⟨rfl, hb⟩; have E1 := Lib.hid (E.out.later hb); clear hb E; have E := E1; clear E1; go_wp2_with fail; (refine hK.out _ _ (E.out.part _ _ (by repeat (first | exact List.Sublist.refl _ | apply List.Sublist.cons_cons | apply List.Sublist.cons)) (by simp)) (fun kS => ?_); clear hK K; (try simp only [Act.put, List.setIfInBounds_toArray, List.set_cons_zero, List.set_cons_succ])))
          (refine takeL (i := 9) (v := _) rfl (by kernel_rfl) (by kernel_rfl) (by kernel_rfl) (fun _ _ _ h => h) (by first | exact Or.inl ⟨by rfl, (by intro u hSu; clear hSu; go_simp; try with_reducible rfl)⟩ | exact Or.inr ⟨by rfl, rfl⟩) kS ?_; (try simp only [Act.put, List.setIfInBounds_toArray, List.set_cons_zero, List.set_cons_succ]))
          refine callL (i := 10) rfl (by kernel_rfl) (fun K hK => ?_)
          (rw [if_pos (by rfl)]; refine wp_kn_storei (g := g4) (i := i * 4 + 3) (z := m3) E.out rfl rfl rfl rfl (by omega) ?_; clear E kS; intro u E0; have E := Lib.hid E0; clear E0; (refine hK.out _ _ (E.out.part _ _ (by repeat (first | exact List.Sublist.refl _ | apply List.Sublist.cons_cons | apply List.Sublist.cons)) (by simp)) (fun kS => ?_); clear hK K; (try simp only [Act.put, List.setIfInBounds_toArray, List.set_cons_zero, List.set_cons_succ])))
          refine wpAnyH_done (by kernel_rfl) ?_ _
          rw [hos.out] at E
          clear HMA hos hga hgb
          by_cases ht0 : tn = 0
          · have htb : ¬ ((0 : Int) < (tn : Int)) := by omega
            have htd : decide ((tn : Int) > 0) = false := decide_eq_false (by omega)
            have hfin := Lib.hid (HO0.out ht0)
            clear ht0 HO0 HO1 HOG htn4
            go_wp2_with (first | ((with_reducible refine kn_load E.out rfl rfl rfl rfl ?_)) | ((with_reducible refine kn_load_if E.out rfl rfl rfl rfl ?_)) | ((with_reducible refine kn_loads E.out rfl rfl rfl ?_ ?_); (focus (first | rfl | (simp only [i64s_length, u8s_length]; first | rfl | assumption | omega)))) | ((with_reducible refine kn_loads_if E.out rfl rfl rfl ?_ ?_); (focus (first | rfl | (simp only [i64s_length, u8s_length]; first | rfl | assumption | omega)))) | ((with_reducible refine kn_store1_int E.out rfl rfl rfl rfl rfl ?_); clear E; intro u E0; have E := Lib.hid E0; clear E0) | ((with_reducible refine kn_store1_slice E.out rfl rfl rfl rfl rfl ?_); clear E; intro u E0; have E := Lib.hid E0; clear E0) | ((with_reducible refine kn_store1_bool E.out rfl rfl rfl rfl rfl ?_); clear E; intro u E0; have E := Lib.hid E0; clear E0) | ((with_reducible refine kn_stores E.out rfl rfl rfl rfl rfl ?_ ?_ ?_); (focus (first | exact ⟨rfl, rfl⟩ | (simp only [i64s_length, u8s_length]; refine ⟨?_, ?_⟩ <;> first | rfl | assumption | omega))); (focus (first | exact i64s_one _ | exact u8s_one _ | simp [Value.oneCell'])); clear E; intro u E0; have E := Lib.hid E0; clear E0) | ((with_reducible refine kn_alloc E.out rfl rfl ?_); clear E; intro g u E0 hb0; have E := Lib.hid E0; clear E0 hb0) | ((with_reducible refine kn_box E.out rfl rfl rfl ?_); clear E; intro g u E0 hb0; have E := Lib.hid E0; clear E0 hb0) | ((with_reducible refine kn_box_int E.out rfl rfl rfl ?_); clear E; intro g u E0 hb0; have E := Lib.hid E0; clear E0 hb0) | ((with_reducible refine kn_box_slice E.out rfl rfl rfl ?_); clear E; intro g u E0 hb0; have E := Lib.hid E0; clear E0 hb0) | ((with_reducible refine kn_box_bool E.out rfl rfl rfl ?_); clear E; intro g u E0 hb0; have E := Lib.hid E0; clear E0 hb0) | ((with_reducible refine kn_box_func E.out rfl rfl rfl ?_); clear E; intro g u E0 hb0; have E := Lib.hid E0; clear E0 hb0))
            go_roundw
            case rel => exact ⟨i + 1, by omega, by go_num, by rw [hfin.out]; exact E.out.part _ _ (by repeat (first | exact List.Sublist.refl _ | apply List.Sublist.cons_cons | apply List.Sublist.cons)) (by simp)⟩
            case measure => simp [intOf]; try omega
          · have htb : (0 : Int) < (tn : Int) := by omega
            have htd : decide ((tn : Int) > 0) = true := decide_eq_true (by omega)
            obtain ⟨t1, ht1⟩ : ∃ t1, tn = t1 + 1 := ⟨tn - 1, by omega⟩
            have hfin := Lib.hid (HO1.out t1 ht1)
            have g3 := Lib.hid (show (OP 4).getD (i * 4 + 3) 0 = m3 from by rw [HOG.out 4 (by omega), if_pos (by omega), show i * 4 + 3 - i * 4 = 3 by omega, hm3.out])
            have gt := Lib.hid (show (OP 4).getD (i * 4 + t1) 0 = mf t1 from by rw [HOG.out 4 (by omega), if_pos (by omega), show i * 4 + t1 - i * 4 = t1 by omega])
            have gi := Lib.hid ((i64s_get (OP 4) (i * 4 + t1) (by omega)).trans (congrArg (fun z => some (Value.int .i64 z)) gt.out))
            have x1 : (tn : Int) - 1 = (t1 : Int) := by omega
            have x2 : wrap64 ((tn : Int) - 1) = (t1 : Int) := by rw [wrap64_small _ (by omega) (by omega)]; omega
            have x3 := Lib.hid (show IntKind.i64.wrap ((tn : Int) - 1) = (t1 : Int) from by rw [IntKind.wrap_i64]; omega)
            have x6 := Lib.hid (show IntKind.i64.wrap (t1 : Int) = (t1 : Int) from by rw [IntKind.wrap_i64]; omega)
            have x4 : (t1 : Int) < 4 := by omega
            have x5 : i * 4 + t1 < 64 := by omega
            clear ht1 ht0 HO0 HO1 HOG htn4
            obtain ⟨mt, hmt⟩ : ∃ z, mf t1 = z := ⟨_, rfl⟩
            rw [hmt] at hfin gi
            clear hmt gt
            go_wp2_with (first
              | ((with_reducible refine kn_loadi (g := g4) (i := i * 4 + 3) E.out rfl rfl rfl ?hi ?_); (case hi => omega); rw [g3.out])
              | ((with_reducible refine kn_load E.out rfl rfl rfl rfl ?_)) | ((with_reducible refine kn_load_if E.out rfl rfl rfl rfl ?_)) | ((with_reducible refine kn_loads E.out rfl rfl rfl ?_ ?_); (focus (first | rfl | (simp only [i64s_length, u8s_length]; first | rfl | assumption | omega)))) | ((with_reducible refine kn_loads_if E.out rfl rfl rfl ?_ ?_); (focus (first | rfl | (simp only [i64s_length, u8s_length]; first | rfl | assumption | omega)))) | ((with_reducible refine kn_store1_int E.out rfl rfl rfl rfl rfl ?_); clear E; intro u E0; have E := Lib.hid E0; clear E0) | ((with_reducible refine kn_store1_slice E.out rfl rfl rfl rfl rfl ?_); clear E; intro u E0; have E := Lib.hid E0; clear E0) | ((with_reducible refine kn_store1_bool E.out rfl rfl rfl rfl rfl ?_); clear E; intro u E0; have E := Lib.hid E0; clear E0) | ((with_reducible refine kn_stores E.out rfl rfl rfl rfl rfl ?_ ?_ ?_); (focus (first | exact ⟨rfl, rfl⟩ | (simp only [i64s_length, u8s_length]; refine ⟨?_, ?_⟩ <;> first | rfl | assumption | omega))); (focus (first | exact i64s_one _ | exact u8s_one _ | simp [Value.oneCell'])); clear E; intro u E0; have E := Lib.hid E0; clear E0) | ((with_reducible refine kn_alloc E.out rfl rfl ?_); clear E; intro g u E0 hb0; have E := Lib.hid E0; clear E0 hb0) | ((with_reducible refine kn_box E.out rfl rfl rfl ?_); clear E; intro g u E0 hb0; have E := Lib.hid E0; clear E0 hb0) | ((with_reducible refine kn_box_int E.out rfl rfl rfl ?_); clear E; intro g u E0 hb0; have E := Lib.hid E0; clear E0 hb0) | ((with_reducible refine kn_box_slice E.out rfl rfl rfl ?_); clear E; intro g u E0 hb0; have E := Lib.hid E0; clear E0 hb0) | ((with_reducible refine kn_box_bool E.out rfl rfl rfl ?_); clear E; intro g u E0 hb0; have E := Lib.hid E0; clear E0 hb0) | ((with_reducible refine kn_box_func E.out rfl rfl rfl ?_); clear E; intro g u E0 hb0; have E := Lib.hid E0; clear E0 hb0))
            refine wp_region_held_drew (S := Kn w [] [bsF A 16 xs]) (by kernel_rfl) (E.out.drew.part _ _ (by repeat (first | exact List.Sublist.refl _ | apply List.Sublist.cons_cons | apply List.Sublist.cons)) (by simp)) (fun kS => ?_)
            have E1 := Lib.hid E.out.drew
            generalize World.drew _ = u1 at kS E1 ⊢
            clear E
            have E := E1
            clear E1
            (refine takeL (i := 0) (v := _) rfl (by kernel_rfl) (by kernel_rfl) (by kernel_rfl) (fun _ _ _ h => h) (by first | exact Or.inl ⟨by rfl, (by intro u hSu; clear hSu; go_simp; try with_reducible rfl)⟩ | exact Or.inr ⟨by rfl, rfl⟩) kS ?_; (try simp only [Act.put, List.setIfInBounds_toArray, List.set_cons_zero, List.set_cons_succ])); (refine takeL (i := 1) (v := _) rfl (by kernel_rfl) (by kernel_rfl) (by kernel_rfl) (fun _ _ _ h => h) (by first | exact Or.inl ⟨by rfl, (by intro u hSu; clear hSu; go_simp; try with_reducible rfl)⟩ | exact Or.inr ⟨by rfl, rfl⟩) kS ?_; (try simp only [Act.put, List.setIfInBounds_toArray, List.set_cons_zero, List.set_cons_succ])); (refine takeL (i := 2) (v := _) rfl (by kernel_rfl) (by kernel_rfl) (by kernel_rfl) (fun _ _ _ h => h) (by first | exact Or.inl ⟨by rfl, (by intro u hSu; clear hSu; go_simp; try with_reducible rfl)⟩ | exact Or.inr ⟨by rfl, rfl⟩) kS ?_; (try simp only [Act.put, List.setIfInBounds_toArray, List.set_cons_zero, List.set_cons_succ])); (refine takeL (i := 3) (v := _) rfl (by kernel_rfl) (by kernel_rfl) (by kernel_rfl) (fun _ _ _ h => h) (by first | exact Or.inl ⟨by rfl, (by intro u hSu; clear hSu; go_simp; try with_reducible rfl)⟩ | exact Or.inr ⟨by rfl, rfl⟩) kS ?_; (try simp only [Act.put, List.setIfInBounds_toArray, List.set_cons_zero, List.set_cons_succ]))
            try (first | rw [x6.out] | rw [x3.out])
            (refine takeL (i := 4) (v := _) rfl (by kernel_rfl) (by kernel_rfl) (by kernel_rfl) (fun _ _ _ h => h) (by first | exact Or.inl ⟨by rfl, (by intro u hSu; clear hSu; go_simp; try with_reducible rfl)⟩ | exact Or.inr ⟨by rfl, rfl⟩) kS ?_; (try simp only [Act.put, List.setIfInBounds_toArray, List.set_cons_zero, List.set_cons_succ])); (refine takeL (i := 5) (v := _) rfl (by kernel_rfl) (by kernel_rfl) (by kernel_rfl) (fun _ _ _ h => h) (by first | exact Or.inl ⟨by rfl, (by intro u hSu; clear hSu; go_simp; try with_reducible rfl)⟩ | exact Or.inr ⟨by rfl, rfl⟩) kS ?_; (try simp only [Act.put, List.setIfInBounds_toArray, List.set_cons_zero, List.set_cons_succ])); (refine takeL (i := 7) (v := _) rfl (by kernel_rfl) (by kernel_rfl) (by kernel_rfl) (fun _ _ _ h => h) (by first | exact Or.inl ⟨by rfl, (by intro u hSu; clear hSu; go_simp; try with_reducible rfl)⟩ | exact Or.inr ⟨by rfl, rfl⟩) kS ?_; (try simp only [Act.put, List.setIfInBounds_toArray, List.set_cons_zero, List.set_cons_succ]))
            refine callL (i := 6) rfl (by kernel_rfl) (fun K hK => ?_)
            (rw [if_pos (by rfl)]; refine wp_kn_load (g := g4) (i := i * 4 + t1) E.out rfl rfl gi.out ?_; (refine hK.out _ _ (E.out.part _ _ (by repeat (first | exact List.Sublist.refl _ | apply List.Sublist.cons_cons | apply List.Sublist.cons)) (by simp)) (fun kS => ?_); clear hK K; (try simp only [Act.put, List.setIfInBounds_toArray, List.set_cons_zero, List.set_cons_succ])))
            (refine takeL (i := 8) (v := _) rfl (by kernel_rfl) (by kernel_rfl) (by kernel_rfl) (fun _ _ _ h => h) (by first | exact Or.inl ⟨by rfl, (by intro u hSu; clear hSu; go_simp; try with_reducible rfl)⟩ | exact Or.inr ⟨by rfl, rfl⟩) kS ?_; (try simp only [Act.put, List.setIfInBounds_toArray, List.set_cons_zero, List.set_cons_succ]))
            refine callL (i := 9) rfl (by kernel_rfl) (fun K hK => ?_)
            (rw [if_pos (by rfl)]; refine wp_kn_storei (g := g4) (i := i * 4 + 3) (z := mt) E.out rfl rfl rfl rfl (by omega) ?_; clear E kS; intro u E0; have E := Lib.hid E0; clear E0; (refine hK.out _ _ (E.out.part _ _ (by repeat (first | exact List.Sublist.refl _ | apply List.Sublist.cons_cons | apply List.Sublist.cons)) (by simp)) (fun kS => ?_); clear hK K; (try simp only [Act.put, List.setIfInBounds_toArray, List.set_cons_zero, List.set_cons_succ])))
            refine wpAnyH_done (by kernel_rfl) ?_ _
            go_wp2_with (first
              | ((with_reducible refine kn_storei (g := g4) (i := i * 4 + t1) E.out rfl rfl rfl rfl rfl ?hi ?_); (case hi => rw [List.length_set]; omega); clear E; intro u E0; have E := Lib.hid E0; clear E0)
              | ((with_reducible refine kn_load E.out rfl rfl rfl rfl ?_)) | ((with_reducible refine kn_load_if E.out rfl rfl rfl rfl ?_)) | ((with_reducible refine kn_loads E.out rfl rfl rfl ?_ ?_); (focus (first | rfl | (simp only [i64s_length, u8s_length]; first | rfl | assumption | omega)))) | ((with_reducible refine kn_loads_if E.out rfl rfl rfl ?_ ?_); (focus (first | rfl | (simp only [i64s_length, u8s_length]; first | rfl | assumption | omega)))) | ((with_reducible refine kn_store1_int E.out rfl rfl rfl rfl rfl ?_); clear E; intro u E0; have E := Lib.hid E0; clear E0) | ((with_reducible refine kn_store1_slice E.out rfl rfl rfl rfl rfl ?_); clear E; intro u E0; have E := Lib.hid E0; clear E0) | ((with_reducible refine kn_store1_bool E.out rfl rfl rfl rfl rfl ?_); clear E; intro u E0; have E := Lib.hid E0; clear E0) | ((with_reducible refine kn_stores E.out rfl rfl rfl rfl rfl ?_ ?_ ?_); (focus (first | exact ⟨rfl, rfl⟩ | (simp only [i64s_length, u8s_length]; refine ⟨?_, ?_⟩ <;> first | rfl | assumption | omega))); (focus (first | exact i64s_one _ | exact u8s_one _ | simp [Value.oneCell'])); clear E; intro u E0; have E := Lib.hid E0; clear E0) | ((with_reducible refine kn_alloc E.out rfl rfl ?_); clear E; intro g u E0 hb0; have E := Lib.hid E0; clear E0 hb0) | ((with_reducible refine kn_box E.out rfl rfl rfl ?_); clear E; intro g u E0 hb0; have E := Lib.hid E0; clear E0 hb0) | ((with_reducible refine kn_box_int E.out rfl rfl rfl ?_); clear E; intro g u E0 hb0; have E := Lib.hid E0; clear E0 hb0) | ((with_reducible refine kn_box_slice E.out rfl rfl rfl ?_); clear E; intro g u E0 hb0; have E := Lib.hid E0; clear E0 hb0) | ((with_reducible refine kn_box_bool E.out rfl rfl rfl ?_); clear E; intro g u E0 hb0; have E := Lib.hid E0; clear E0 hb0) | ((with_reducible refine kn_box_func E.out rfl rfl rfl ?_); clear E; intro g u E0 hb0; have E := Lib.hid E0; clear E0 hb0))
            go_roundw
            case rel => exact ⟨i + 1, by omega, by go_num, by rw [hfin.out]; exact E.out.part _ _ (by repeat (first | exact List.Sublist.refl _ | apply List.Sublist.cons_cons | apply List.Sublist.cons)) (by simp)⟩
            case measure => simp [intOf]; try omega
    · have hin2 : ¬ ((i : Int) < 16) := by omega
      have hie : i = 16 := by omega
      rw [hie] at E
      clear HXF HXS HTX HPT HFS HFL HcN HcB HaN HaB HlF HlS HF0 HRW HRL HSM hlt hie hCS
      go_wp2_with (first | ((with_reducible refine kn_load E.out rfl rfl rfl rfl ?_)) | ((with_reducible refine kn_load_if E.out rfl rfl rfl rfl ?_)) | ((with_reducible refine kn_loads E.out rfl rfl rfl ?_ ?_); (focus (first | rfl | (simp only [i64s_length, u8s_length]; first | rfl | assumption | omega)))) | ((with_reducible refine kn_loads_if E.out rfl rfl rfl ?_ ?_); (focus (first | rfl | (simp only [i64s_length, u8s_length]; first | rfl | assumption | omega)))) | ((with_reducible refine kn_store1_int E.out rfl rfl rfl rfl rfl ?_); clear E; intro u E0; have E := Lib.hid E0; clear E0) | ((with_reducible refine kn_store1_slice E.out rfl rfl rfl rfl rfl ?_); clear E; intro u E0; have E := Lib.hid E0; clear E0) | ((with_reducible refine kn_store1_bool E.out rfl rfl rfl rfl rfl ?_); clear E; intro u E0; have E := Lib.hid E0; clear E0) | ((with_reducible refine kn_stores E.out rfl rfl rfl rfl rfl ?_ ?_ ?_); (focus (first | exact ⟨rfl, rfl⟩ | (simp only [i64s_length, u8s_length]; refine ⟨?_, ?_⟩ <;> first | rfl | assumption | omega))); (focus (first | exact i64s_one _ | exact u8s_one _ | simp [Value.oneCell'])); clear E; intro u E0; have E := Lib.hid E0; clear E0) | ((with_reducible refine kn_alloc E.out rfl rfl ?_); clear E; intro g u E0 hb0; have E := Lib.hid E0; clear E0 hb0) | ((with_reducible refine kn_box E.out rfl rfl rfl ?_); clear E; intro g u E0 hb0; have E := Lib.hid E0; clear E0 hb0) | ((with_reducible refine kn_box_int E.out rfl rfl rfl ?_); clear E; intro g u E0 hb0; have E := Lib.hid E0; clear E0 hb0) | ((with_reducible refine kn_box_slice E.out rfl rfl rfl ?_); clear E; intro g u E0 hb0; have E := Lib.hid E0; clear E0 hb0) | ((with_reducible refine kn_box_bool E.out rfl rfl rfl ?_); clear E; intro g u E0 hb0; have E := Lib.hid E0; clear E0 hb0) | ((with_reducible refine kn_box_func E.out rfl rfl rfl ?_); clear E; intro g u E0 hb0; have E := Lib.hid E0; clear E0 hb0))
      exact onlyExit_intro (hexit.out _ _ _ _ _ _ _ _ _ _ _ _ _ _ _ _ _ _ _ _ _ _ _ _ _ _ _ _ _ _ _ _ _ _ _ _ _ _ _ _ _ _ _ _ _ _ _ _ _ _ _ _ _ _ _ _ _ _ _ _ _ _ _ _ _ _ _ _ _ _ _ _ _ _ _ _ _ _ _ _ _ _ _ _ _ _ _ _ _ _ _ _ _ _ _ _ _ _ _ _ _ _ _ _ _ _ _ _ _ E)
end Go.Proofs.YtnoailihkjccbaaDoor
