/-
  Statements of the law ShapeTells that draw their order, for any frame.
-/
import Derived.Test.YthdgldoailjhhaaShpO
namespace Go.Proofs.Ythdgldoailjhhaa
open Go.RowKit

set_option maxHeartbeats 4000000 in
set_option maxRecDepth 100000 in
theorem shreg16 {u1 u2 u3 u5 u6 u7 u8 u9 u10 u11 u12 u13 u15 u16 u17 u18 u19 u20 u21 u22 u23 u24 u25 u26 u27 u28 u29 u30 u31 u32 u33 u34 u35 u36 u37 u38 u39 u40 u41 u42 u43 u44 u45 u46 u47 u48 u49 u50 u51 u52 u53 u54 u55 u56 u57 u58 u59 u60 u61 u62 u63 u64 u65 u66 u67 u68 u69 u70 u71 u72 u73 u74 u75 u76 u77 u78 u79 u80 u81 u82 u83 u84 u85 u86 u87 u88 u89 u90 u91 u92 u93 u94 u95 u96 u97 u98 u99 u100 u101 u102 u103 u104 u105 u106 u107 u108 u109 u110 u111 u112 u113 u114 u115 u116 u117 u118 u119 u120 u121 u122 u123 u124 u125 u126 u127 u128 u129 u130 u131 u132 u133 u134 u135 u136 u137 u138 u139 u140 u141 u142 u143 u144 u145 u146 u147 u148 u149 u150 u151 u152 u153 u154 u155 u156 u157 u158 u159 u160 u161 u162 u163 u164 u165 u166 u167 u168 u169 u170 u171 u172 u173 u174 u175 u176 u177 u178 u179 u180 u181 u182 u183 u184 u185 u186 u187 u188 u189 u190 u191 u192 : Value} {Q : Exit → Act → World → Prop} {b off len cap k gm : Nat} {B M C : Nat → Int} {x : Int} {w : World}
    (hQ : ∀ c a d v w, Q (.panic c) (a.put d v) w → Q (.panic c) a w)
    (hk0 : (0 : Int) ≤ (k : Int)) (hk1 : (k : Int) < (len : Int))
    (hs : ∀ w', Below w.heap.size w w' → (w'.rangeAt gm 0 [.int .i64 (M 0), .int .i64 (M 1), .int .i64 (M 2), .int .i64 (M 3), .int .i64 (M 4), .int .i64 (M 5), .int .i64 (M 6), .int .i64 (M 7), .int .i64 (M 8), .int .i64 (M 9), .int .i64 (M 10), .int .i64 (M 11)] ∧ w'.cell? ⟨b, off + k * 6, none⟩ = some (.int .i64 (B 0)) ∧ w'.cell? ⟨b, off + k * 6 + 1, none⟩ = some (.int .i64 (B 1)) ∧ w'.cell? ⟨b, off + k * 6 + 2, none⟩ = some (.int .i64 (B 2)) ∧ w'.cell? ⟨b, off + k * 6 + 3, none⟩ = some (.int .i64 (B 3)) ∧ w'.cell? ⟨b, off + k * 6 + 4, none⟩ = some (.int .i64 (B 4)) ∧ w'.cell? ⟨b, off + k * 6 + 5, none⟩ = some (.int .i64 (B 5))))
    (hc : ∀ w', Calls Try.prog 12 #[.agg #[.int .i64 (M 0), .int .i64 (M 1), .int .i64 (M 2), .int .i64 (M 3), .int .i64 (M 4), .int .i64 (M 5), .int .i64 (M 6), .int .i64 (M 7), .int .i64 (M 8), .int .i64 (M 9), .int .i64 (M 10), .int .i64 (M 11)], .agg #[.int .i64 (B 0), .int .i64 (B 1), .int .i64 (B 2), .int .i64 (B 3), .int .i64 (B 4), .int .i64 (B 5)]] w' fun e w'' => e = .returned (.tuple #[.agg #[.int .i64 (C 0), .int .i64 (C 1), .int .i64 (C 2), .int .i64 (C 3), .int .i64 (C 4), .int .i64 (C 5)], .int .i64 x]) ∧ Below w'.heap.size w' w'')
    (hk : ∀ G W', Blk W' G 33 #[.int .i64 (C 0), .int .i64 (C 1), .int .i64 (C 2), .int .i64 (C 3), .int .i64 (C 4), .int .i64 (C 5)] → Below w.heap.size w W' → Q .normal { tmps := #[.slice (some ⟨b, off, none⟩) len cap, u1, u2, u3, .pointer (some ⟨gm, 0, none⟩), u5, u6, u7, u8, u9, u10, u11, u12, u13, .int .i64 (k : Int), .pointer (some ⟨G, 0, none⟩), .int .i64 x, u17, u18, u19, u20, u21, u22, u23, u24, u25, u26, u27, u28, u29, u30, u31, u32, u33, u34, u35, u36, u37, u38, u39, u40, u41, u42, u43, u44, u45, u46, u47, u48, u49, u50, u51, u52, u53, u54, u55, u56, u57, u58, u59, u60, u61, u62, u63, u64, u65, u66, u67, u68, u69, u70, u71, u72, u73, u74, u75, u76, u77, u78, u79, u80, u81, u82, u83, u84, u85, .tuple #[.agg #[.int .i64 (C 0), .int .i64 (C 1), .int .i64 (C 2), .int .i64 (C 3), .int .i64 (C 4), .int .i64 (C 5)], .int .i64 x], .agg #[.int .i64 (M 0), .int .i64 (M 1), .int .i64 (M 2), .int .i64 (M 3), .int .i64 (M 4), .int .i64 (M 5), .int .i64 (M 6), .int .i64 (M 7), .int .i64 (M 8), .int .i64 (M 9), .int .i64 (M 10), .int .i64 (M 11)], .slice (some ⟨b, off, none⟩) len cap, .int .i64 (k : Int), .pointer (some ⟨b, off + k * 6, none⟩), .agg #[.int .i64 (B 0), .int .i64 (B 1), .int .i64 (B 2), .int .i64 (B 3), .int .i64 (B 4), .int .i64 (B 5)], .tuple #[.agg #[.int .i64 (C 0), .int .i64 (C 1), .int .i64 (C 2), .int .i64 (C 3), .int .i64 (C 4), .int .i64 (C 5)], .int .i64 x], .agg #[.int .i64 (C 0), .int .i64 (C 1), .int .i64 (C 2), .int .i64 (C 3), .int .i64 (C 4), .int .i64 (C 5)], .int .i64 x, u95, u96, u97, u98, u99, u100, u101, u102, u103, u104, u105, u106, u107, u108, u109, u110, u111, u112, u113, u114, u115, u116, u117, u118, u119, u120, u121, u122, u123, u124, u125, u126, u127, u128, u129, u130, u131, u132, u133, u134, u135, u136, u137, u138, u139, u140, u141, u142, u143, u144, u145, u146, u147, u148, u149, u150, u151, u152, u153, u154, u155, u156, u157, u158, u159, u160, u161, u162, u163, u164, u165, u166, u167, u168, u169, u170, u171, u172, u173, u174, u175, u176, u177, u178, u179, u180, u181, u182, u183, u184, u185, u186, u187, u188, u189, u190, u191, u192], defers := [] } W') :
    (Code.region 16 #[{ dst := some 87, op := Op.load 25 (Operand.tmp 4), type := 25, pos := "law.go:39", after := #[], guard := none }, { dst := some 88, op := Op.move (Operand.tmp 0), type := 22, pos := "law.go:39", after := #[], guard := none }, { dst := some 89, op := Op.move (Operand.tmp 14), type := 3, pos := "law.go:39", after := #[], guard := none }, { dst := some 90, op := Op.indexAddr 22 (Operand.tmp 88) (Operand.tmp 89), type := 0, pos := "law.go:39", after := #[{ on := 1, ground := Ground.data }, { on := 2, ground := Ground.data }], guard := none }, { dst := some 91, op := Op.load 33 (Operand.tmp 90), type := 33, pos := "law.go:39", after := #[{ on := 3, ground := Ground.data }], guard := none }, { dst := some 92, op := Op.call { callee := Callee.value (Operand.func 12), args := #[Operand.tmp 87, Operand.tmp 91], argTypes := #[25, 33] }, type := 35, pos := "law.go:39", after := #[{ on := 0, ground := Ground.data }, { on := 4, ground := Ground.data }], guard := none }, { dst := some 86, op := Op.move (Operand.tmp 92), type := 35, pos := "law.go:39", after := #[{ on := 5, ground := Ground.data }], guard := none }, { dst := some 93, op := Op.extract (Operand.tmp 86) 0, type := 33, pos := "law.go:39", after := #[{ on := 6, ground := Ground.data }], guard := none }, { dst := some 94, op := Op.extract (Operand.tmp 86) 1, type := 34, pos := "law.go:39", after := #[{ on := 6, ground := Ground.data }, { on := 10, ground := Ground.gcOnly Departure.lateStores }], guard := none }, { dst := some 15, op := Op.alloc 33, type := 0, pos := "law.go:39", after := #[], guard := none }, { dst := none, op := Op.store 33 (Operand.tmp 15) (Operand.tmp 93), type := 0, pos := "law.go:39", after := #[{ on := 9, ground := Ground.data }, { on := 7, ground := Ground.data }, { on := 5, ground := Ground.chain }, { on := 0, ground := Ground.phase }, { on := 1, ground := Ground.phase }, { on := 2, ground := Ground.phase }, { on := 3, ground := Ground.phase }, { on := 4, ground := Ground.phase }, { on := 5, ground := Ground.phase }, { on := 6, ground := Ground.phase }, { on := 7, ground := Ground.phase }, { on := 8, ground := Ground.textOnly Departure.lateStores }, { on := 9, ground := Ground.phase }], guard := none }, { dst := some 16, op := Op.assign (Operand.tmp 94), type := 34, pos := "law.go:39", after := #[{ on := 8, ground := Ground.data }, { on := 10, ground := Ground.chain }, { on := 0, ground := Ground.phase }, { on := 1, ground := Ground.phase }, { on := 2, ground := Ground.phase }, { on := 3, ground := Ground.phase }, { on := 4, ground := Ground.phase }, { on := 5, ground := Ground.phase }, { on := 6, ground := Ground.phase }, { on := 7, ground := Ground.phase }, { on := 8, ground := Ground.phase }, { on := 9, ground := Ground.phase }, { on := 10, ground := Ground.phase }], guard := none }] true).wp Try.prog Q { tmps := #[.slice (some ⟨b, off, none⟩) len cap, u1, u2, u3, .pointer (some ⟨gm, 0, none⟩), u5, u6, u7, u8, u9, u10, u11, u12, u13, .int .i64 (k : Int), u15, u16, u17, u18, u19, u20, u21, u22, u23, u24, u25, u26, u27, u28, u29, u30, u31, u32, u33, u34, u35, u36, u37, u38, u39, u40, u41, u42, u43, u44, u45, u46, u47, u48, u49, u50, u51, u52, u53, u54, u55, u56, u57, u58, u59, u60, u61, u62, u63, u64, u65, u66, u67, u68, u69, u70, u71, u72, u73, u74, u75, u76, u77, u78, u79, u80, u81, u82, u83, u84, u85, u86, u87, u88, u89, u90, u91, u92, u93, u94, u95, u96, u97, u98, u99, u100, u101, u102, u103, u104, u105, u106, u107, u108, u109, u110, u111, u112, u113, u114, u115, u116, u117, u118, u119, u120, u121, u122, u123, u124, u125, u126, u127, u128, u129, u130, u131, u132, u133, u134, u135, u136, u137, u138, u139, u140, u141, u142, u143, u144, u145, u146, u147, u148, u149, u150, u151, u152, u153, u154, u155, u156, u157, u158, u159, u160, u161, u162, u163, u164, u165, u166, u167, u168, u169, u170, u171, u172, u173, u174, u175, u176, u177, u178, u179, u180, u181, u182, u183, u184, u185, u186, u187, u188, u189, u190, u191, u192], defers := [] } w := by
  have HK := Lib.hid hk
  clear hk
  have hsM := sizeM M
  have hu := Try.underlying25
  have HS := Lib.hid hs
  have Hc := Lib.hid hc
  clear hs hc
  refine wp_region_held_drew (S := fun w' => w'.rangeAt gm 0 [.int .i64 (M 0), .int .i64 (M 1), .int .i64 (M 2), .int .i64 (M 3), .int .i64 (M 4), .int .i64 (M 5), .int .i64 (M 6), .int .i64 (M 7), .int .i64 (M 8), .int .i64 (M 9), .int .i64 (M 10), .int .i64 (M 11)] ∧ w'.cell? ⟨b, off + k * 6, none⟩ = some (.int .i64 (B 0)) ∧ w'.cell? ⟨b, off + k * 6 + 1, none⟩ = some (.int .i64 (B 1)) ∧ w'.cell? ⟨b, off + k * 6 + 2, none⟩ = some (.int .i64 (B 2)) ∧ w'.cell? ⟨b, off + k * 6 + 3, none⟩ = some (.int .i64 (B 3)) ∧ w'.cell? ⟨b, off + k * 6 + 4, none⟩ = some (.int .i64 (B 4)) ∧ w'.cell? ⟨b, off + k * 6 + 5, none⟩ = some (.int .i64 (B 5))) (by kernel_rfl) (HS.out _ (bdrewn (Below.refl _ _))) (fun hHeld => ?_)
  refine wpAnyH_take (i := 0) (v := _) rfl (by kernel_rfl) (by kernel_rfl) (by kernel_rfl) (fun c a w h => hQ c a _ _ w h) (yieldsIf_load_mid (by rfl) _ _ rfl _ _ rfl _ _ (fun _ h => h.1) hu rfl hsM) hHeld ?_
  simp only [Act.put, List.getElem_toArray, List.getElem_cons_zero, List.setIfInBounds_toArray, List.set_cons_zero, List.set_cons_succ]
  refine wpAnyH_take (i := 1) (v := ?_) rfl (by kernel_rfl) (by kernel_rfl) (by kernel_rfl) (fun c a w h => hQ c a _ _ w h) (Or.inl ⟨by rfl, ?_⟩) hHeld ?_
  rotate_left
  · rintro w ⟨s0, s1, s2, s3, s4, s5, s6⟩
    go_simp
    with_reducible rfl
  simp only [Act.put, List.getElem_toArray, List.getElem_cons_zero, List.getElem_cons_succ, List.setIfInBounds_toArray, List.set_cons_zero, List.set_cons_succ]
  refine wpAnyH_take (i := 2) (v := ?_) rfl (by kernel_rfl) (by kernel_rfl) (by kernel_rfl) (fun c a w h => hQ c a _ _ w h) (Or.inl ⟨by rfl, ?_⟩) hHeld ?_
  rotate_left
  · rintro w ⟨s0, s1, s2, s3, s4, s5, s6⟩
    go_simp
    with_reducible rfl
  simp only [Act.put, List.getElem_toArray, List.getElem_cons_zero, List.getElem_cons_succ, List.setIfInBounds_toArray, List.set_cons_zero, List.set_cons_succ]
  refine wpAnyH_take (i := 3) (v := ?_) rfl (by kernel_rfl) (by kernel_rfl) (by kernel_rfl) (fun c a w h => hQ c a _ _ w h) (Or.inl ⟨by rfl, ?_⟩) hHeld ?_
  rotate_left
  · rintro w ⟨s0, s1, s2, s3, s4, s5, s6⟩
    go_simp
    with_reducible rfl
  simp only [Act.put, List.getElem_toArray, List.getElem_cons_zero, List.getElem_cons_succ, List.setIfInBounds_toArray, List.set_cons_zero, List.set_cons_succ]
  refine wpAnyH_take (i := 4) (v := ?_) rfl (by kernel_rfl) (by kernel_rfl) (by kernel_rfl) (fun c a w h => hQ c a _ _ w h) (Or.inl ⟨by rfl, ?_⟩) hHeld ?_
  rotate_left
  · rintro w ⟨s0, s1, s2, s3, s4, s5, s6⟩
    go_simp
    with_reducible rfl
  simp only [Act.put, List.getElem_toArray, List.getElem_cons_zero, List.getElem_cons_succ, List.setIfInBounds_toArray, List.set_cons_zero, List.set_cons_succ]
  refine fin (fun W => Below w.heap.size w W) (bdrewn (Below.refl _ _)) ?_
  clear hHeld
  rintro y0 hb0
  have HB0 := Lib.hid hb0
  clear hb0
  have hHeld := HS.out _ HB0.out
  refine wpAnyH_ready (rs := [5, 9]) (by kernel_rfl) (by simp) ?_
  refine AllReadyH.cons rfl (fun K hK => ?_) (AllReadyH.cons rfl (fun K hK => ?_) AllReadyH.nil)
  · skip
    go_simp
    go_at_call 12
    refine (Hc.out _).mono ?_
    rintro e x1 ⟨rfl, b1⟩
    go_wp2_with fail
    refine hK.out _ _ (HS.out _ (bthen HB0.out b1)) (fun hHeld => ?_)
    clear hK K hHeld
    refine fin (fun W => Below w.heap.size w W) (bthen HB0.out b1) ?_
    clear HB0
    rintro y2 hb0
    have HB0 := Lib.hid hb0
    clear hb0
    have hHeld := HS.out _ HB0.out
    clear b1
    refine wpAnyH_take (i := 6) (v := ?_) rfl (by kernel_rfl) (by kernel_rfl) (by kernel_rfl) (fun c a w h => hQ c a _ _ w h) (Or.inl ⟨by rfl, ?_⟩) hHeld ?_
    rotate_left
    · intro w hSw
      go_simp
      with_reducible rfl
    simp only [Act.put, List.getElem_toArray, List.getElem_cons_zero, List.getElem_cons_succ, List.setIfInBounds_toArray, List.set_cons_zero, List.set_cons_succ]
    refine wpAnyH_take (i := 7) (v := ?_) rfl (by kernel_rfl) (by kernel_rfl) (by kernel_rfl) (fun c a w h => hQ c a _ _ w h) (Or.inl ⟨by rfl, ?_⟩) hHeld ?_
    rotate_left
    · intro w hSw
      go_simp
      with_reducible rfl
    simp only [Act.put, List.getElem_toArray, List.getElem_cons_zero, List.getElem_cons_succ, List.setIfInBounds_toArray, List.set_cons_zero, List.set_cons_succ]
    refine wpAnyH_take (i := 8) (v := ?_) rfl (by kernel_rfl) (by kernel_rfl) (by kernel_rfl) (fun c a w h => hQ c a _ _ w h) (Or.inl ⟨by rfl, ?_⟩) hHeld ?_
    rotate_left
    · intro w hSw
      go_simp
      with_reducible rfl
    simp only [Act.put, List.getElem_toArray, List.getElem_cons_zero, List.getElem_cons_succ, List.setIfInBounds_toArray, List.set_cons_zero, List.set_cons_succ]
    refine wpAnyH_ready (rs := [9]) (by kernel_rfl) (by simp) ?_
    refine AllReadyH.cons rfl (fun K hK => ?_) AllReadyH.nil
    go_simp
    refine hK.out _ _ (HS.out _ (balloc HB0.out _)) (fun hHeld => ?_)
    clear hK K hHeld
    have hge : w.heap.size ≤ y2.heap.size := HB0.out.size
    refine fin (fun W => Below w.heap.size w W ∧ Blk W (y2.heap.size) 33 #[.int .i64 0, .int .i64 0, .int .i64 0, .int .i64 0, .int .i64 0, .int .i64 0]) ⟨balloc HB0.out _, Blk.new _ _ _⟩ ?_
    clear HB0
    rintro y3 ⟨hb0, hx⟩
    have HB0 := Lib.hid hb0
    have HX := Lib.hid hx
    clear hb0 hx
    have hHeld := HS.out _ HB0.out
    refine wpAnyH_ready (rs := [10]) (by kernel_rfl) (by simp) ?_
    refine AllReadyH.cons rfl (fun K hK => ?_) AllReadyH.nil
    obtain ⟨g0, g1, g2, g3, g4, g5, h0, h1, h2, h3, h4, h5⟩ := blk6 HX.out
    go_simp
    refine hK.out _ _ (HS.out _ (bset6 HB0.out hge)) (fun hHeld => ?_)
    clear hK K hHeld g0 g1 g2 g3 g4 g5 h0 h1 h2 h3 h4 h5
    refine fin (fun W => Below w.heap.size w W ∧ Blk W (y2.heap.size) 33 #[.int .i64 (C 0), .int .i64 (C 1), .int .i64 (C 2), .int .i64 (C 3), .int .i64 (C 4), .int .i64 (C 5)]) ⟨bset6 HB0.out hge, set6 HX.out⟩ ?_
    clear HB0 HX
    rintro y4 ⟨hb0, hx⟩
    have HB0 := Lib.hid hb0
    have HX := Lib.hid hx
    clear hb0 hx
    have hHeld := HS.out _ HB0.out
    clear hge
    refine wpAnyH_take (i := 11) (v := ?_) rfl (by kernel_rfl) (by kernel_rfl) (by kernel_rfl) (fun c a w h => hQ c a _ _ w h) (Or.inl ⟨by rfl, ?_⟩) hHeld ?_
    rotate_left
    · intro w hSw
      go_simp
      with_reducible rfl
    simp only [Act.put, List.getElem_toArray, List.getElem_cons_zero, List.getElem_cons_succ, List.setIfInBounds_toArray, List.set_cons_zero, List.set_cons_succ]
    refine wpAnyH_done (by kernel_rfl) ?_ _
    clear hHeld
    exact HK.out _ _ HX.out HB0.out
  · skip
    go_simp
    refine hK.out _ _ (HS.out _ (balloc HB0.out _)) (fun hHeld => ?_)
    clear hK K hHeld
    have hge : w.heap.size ≤ y0.heap.size := HB0.out.size
    refine fin (fun W => Below w.heap.size w W ∧ Blk W (y0.heap.size) 33 #[.int .i64 0, .int .i64 0, .int .i64 0, .int .i64 0, .int .i64 0, .int .i64 0]) ⟨balloc HB0.out _, Blk.new _ _ _⟩ ?_
    clear HB0
    rintro y5 ⟨hb0, hx⟩
    have HB0 := Lib.hid hb0
    have HX := Lib.hid hx
    clear hb0 hx
    have hHeld := HS.out _ HB0.out
    refine wpAnyH_ready (rs := [5]) (by kernel_rfl) (by simp) ?_
    refine AllReadyH.cons rfl (fun K hK => ?_) AllReadyH.nil
    go_simp
    go_at_call 12
    refine (Hc.out _).mono ?_
    rintro e x6 ⟨rfl, b1⟩
    go_wp2_with fail
    refine hK.out _ _ (HS.out _ (bthen HB0.out b1)) (fun hHeld => ?_)
    clear hK K hHeld
    refine fin (fun W => Below w.heap.size w W ∧ Blk W (y0.heap.size) 33 #[.int .i64 0, .int .i64 0, .int .i64 0, .int .i64 0, .int .i64 0, .int .i64 0]) ⟨bthen HB0.out b1, HX.out.keep b1⟩ ?_
    clear HB0 HX
    rintro y7 ⟨hb0, hx⟩
    have HB0 := Lib.hid hb0
    have HX := Lib.hid hx
    clear hb0 hx
    have hHeld := HS.out _ HB0.out
    clear b1
    refine wpAnyH_take (i := 6) (v := ?_) rfl (by kernel_rfl) (by kernel_rfl) (by kernel_rfl) (fun c a w h => hQ c a _ _ w h) (Or.inl ⟨by rfl, ?_⟩) hHeld ?_
    rotate_left
    · intro w hSw
      go_simp
      with_reducible rfl
    simp only [Act.put, List.getElem_toArray, List.getElem_cons_zero, List.getElem_cons_succ, List.setIfInBounds_toArray, List.set_cons_zero, List.set_cons_succ]
    refine wpAnyH_take (i := 7) (v := ?_) rfl (by kernel_rfl) (by kernel_rfl) (by kernel_rfl) (fun c a w h => hQ c a _ _ w h) (Or.inl ⟨by rfl, ?_⟩) hHeld ?_
    rotate_left
    · intro w hSw
      go_simp
      with_reducible rfl
    simp only [Act.put, List.getElem_toArray, List.getElem_cons_zero, List.getElem_cons_succ, List.setIfInBounds_toArray, List.set_cons_zero, List.set_cons_succ]
    refine wpAnyH_take (i := 8) (v := ?_) rfl (by kernel_rfl) (by kernel_rfl) (by kernel_rfl) (fun c a w h => hQ c a _ _ w h) (Or.inl ⟨by rfl, ?_⟩) hHeld ?_
    rotate_left
    · intro w hSw
      go_simp
      with_reducible rfl
    simp only [Act.put, List.getElem_toArray, List.getElem_cons_zero, List.getElem_cons_succ, List.setIfInBounds_toArray, List.set_cons_zero, List.set_cons_succ]
    refine wpAnyH_ready (rs := [10]) (by kernel_rfl) (by simp) ?_
    refine AllReadyH.cons rfl (fun K hK => ?_) AllReadyH.nil
    obtain ⟨g0, g1, g2, g3, g4, g5, h0, h1, h2, h3, h4, h5⟩ := blk6 HX.out
    go_simp
    refine hK.out _ _ (HS.out _ (bset6 HB0.out hge)) (fun hHeld => ?_)
    clear hK K hHeld g0 g1 g2 g3 g4 g5 h0 h1 h2 h3 h4 h5
    refine fin (fun W => Below w.heap.size w W ∧ Blk W (y0.heap.size) 33 #[.int .i64 (C 0), .int .i64 (C 1), .int .i64 (C 2), .int .i64 (C 3), .int .i64 (C 4), .int .i64 (C 5)]) ⟨bset6 HB0.out hge, set6 HX.out⟩ ?_
    clear HB0 HX
    rintro y8 ⟨hb0, hx⟩
    have HB0 := Lib.hid hb0
    have HX := Lib.hid hx
    clear hb0 hx
    have hHeld := HS.out _ HB0.out
    clear hge
    refine wpAnyH_take (i := 11) (v := ?_) rfl (by kernel_rfl) (by kernel_rfl) (by kernel_rfl) (fun c a w h => hQ c a _ _ w h) (Or.inl ⟨by rfl, ?_⟩) hHeld ?_
    rotate_left
    · intro w hSw
      go_simp
      with_reducible rfl
    simp only [Act.put, List.getElem_toArray, List.getElem_cons_zero, List.getElem_cons_succ, List.setIfInBounds_toArray, List.set_cons_zero, List.set_cons_succ]
    refine wpAnyH_done (by kernel_rfl) ?_ _
    clear hHeld
    exact HK.out _ _ HX.out HB0.out

set_option maxHeartbeats 4000000 in
set_option maxRecDepth 100000 in
theorem shreg17 {u1 u2 u3 u5 u6 u7 u8 u9 u10 u11 u12 u13 u15 u16 u17 u18 u19 u20 u21 u22 u23 u24 u25 u26 u27 u28 u29 u30 u31 u32 u33 u34 u35 u36 u37 u38 u39 u40 u41 u42 u43 u44 u45 u46 u47 u48 u49 u50 u51 u52 u53 u54 u55 u56 u57 u58 u59 u60 u61 u62 u63 u64 u65 u66 u67 u68 u69 u70 u71 u72 u73 u74 u75 u76 u77 u78 u79 u80 u81 u82 u83 u84 u85 u86 u87 u88 u89 u90 u91 u92 u93 u94 u95 u96 u97 u98 u99 u100 u101 u102 u103 u104 u105 u106 u107 u108 u109 u110 u111 u112 u113 u114 u115 u116 u117 u118 u119 u120 u121 u122 u123 u124 u125 u126 u127 u128 u129 u130 u131 u132 u133 u134 u135 u136 u137 u138 u139 u140 u141 u142 u143 u144 u145 u146 u147 u148 u149 u150 u151 u152 u153 u154 u155 u156 u157 u158 u159 u160 u161 u162 u163 u164 u165 u166 u167 u168 u169 u170 u171 u172 u173 u174 u175 u176 u177 u178 u179 u180 u181 u182 u183 u184 u185 u186 u187 u188 u189 u190 u191 u192 : Value} {Q : Exit → Act → World → Prop} {b off len cap k gm : Nat} {B M C : Nat → Int} {x : Int} {w : World}
    (hQ : ∀ c a d v w, Q (.panic c) (a.put d v) w → Q (.panic c) a w)
    (hk0 : (0 : Int) ≤ (k : Int)) (hk1 : (k : Int) < (len : Int))
    (hs : ∀ w', Below w.heap.size w w' → (w'.rangeAt gm 0 [.int .i64 (M 0), .int .i64 (M 1), .int .i64 (M 2), .int .i64 (M 3), .int .i64 (M 4), .int .i64 (M 5), .int .i64 (M 6), .int .i64 (M 7), .int .i64 (M 8), .int .i64 (M 9), .int .i64 (M 10), .int .i64 (M 11)] ∧ w'.cell? ⟨b, off + k * 6, none⟩ = some (.int .i64 (B 0)) ∧ w'.cell? ⟨b, off + k * 6 + 1, none⟩ = some (.int .i64 (B 1)) ∧ w'.cell? ⟨b, off + k * 6 + 2, none⟩ = some (.int .i64 (B 2)) ∧ w'.cell? ⟨b, off + k * 6 + 3, none⟩ = some (.int .i64 (B 3)) ∧ w'.cell? ⟨b, off + k * 6 + 4, none⟩ = some (.int .i64 (B 4)) ∧ w'.cell? ⟨b, off + k * 6 + 5, none⟩ = some (.int .i64 (B 5))))
    (hc : ∀ w', Calls Try.prog 13 #[.agg #[.int .i64 (M 0), .int .i64 (M 1), .int .i64 (M 2), .int .i64 (M 3), .int .i64 (M 4), .int .i64 (M 5), .int .i64 (M 6), .int .i64 (M 7), .int .i64 (M 8), .int .i64 (M 9), .int .i64 (M 10), .int .i64 (M 11)], .agg #[.int .i64 (B 0), .int .i64 (B 1), .int .i64 (B 2), .int .i64 (B 3), .int .i64 (B 4), .int .i64 (B 5)]] w' fun e w'' => e = .returned (.tuple #[.agg #[.int .i64 (C 0), .int .i64 (C 1), .int .i64 (C 2), .int .i64 (C 3), .int .i64 (C 4), .int .i64 (C 5)], .int .i64 x]) ∧ Below w'.heap.size w' w'')
    (hk : ∀ G W', Blk W' G 33 #[.int .i64 (C 0), .int .i64 (C 1), .int .i64 (C 2), .int .i64 (C 3), .int .i64 (C 4), .int .i64 (C 5)] → Below w.heap.size w W' → Q .normal { tmps := #[.slice (some ⟨b, off, none⟩) len cap, u1, u2, u3, .pointer (some ⟨gm, 0, none⟩), u5, u6, u7, u8, u9, u10, u11, u12, u13, .int .i64 (k : Int), u15, u16, .pointer (some ⟨G, 0, none⟩), .int .i64 x, u19, u20, u21, u22, u23, u24, u25, u26, u27, u28, u29, u30, u31, u32, u33, u34, u35, u36, u37, u38, u39, u40, u41, u42, u43, u44, u45, u46, u47, u48, u49, u50, u51, u52, u53, u54, u55, u56, u57, u58, u59, u60, u61, u62, u63, u64, u65, u66, u67, u68, u69, u70, u71, u72, u73, u74, u75, u76, u77, u78, u79, u80, u81, u82, u83, u84, u85, u86, u87, u88, u89, u90, u91, u92, u93, u94, .tuple #[.agg #[.int .i64 (C 0), .int .i64 (C 1), .int .i64 (C 2), .int .i64 (C 3), .int .i64 (C 4), .int .i64 (C 5)], .int .i64 x], .agg #[.int .i64 (M 0), .int .i64 (M 1), .int .i64 (M 2), .int .i64 (M 3), .int .i64 (M 4), .int .i64 (M 5), .int .i64 (M 6), .int .i64 (M 7), .int .i64 (M 8), .int .i64 (M 9), .int .i64 (M 10), .int .i64 (M 11)], .slice (some ⟨b, off, none⟩) len cap, .int .i64 (k : Int), .pointer (some ⟨b, off + k * 6, none⟩), .agg #[.int .i64 (B 0), .int .i64 (B 1), .int .i64 (B 2), .int .i64 (B 3), .int .i64 (B 4), .int .i64 (B 5)], .tuple #[.agg #[.int .i64 (C 0), .int .i64 (C 1), .int .i64 (C 2), .int .i64 (C 3), .int .i64 (C 4), .int .i64 (C 5)], .int .i64 x], .agg #[.int .i64 (C 0), .int .i64 (C 1), .int .i64 (C 2), .int .i64 (C 3), .int .i64 (C 4), .int .i64 (C 5)], .int .i64 x, u104, u105, u106, u107, u108, u109, u110, u111, u112, u113, u114, u115, u116, u117, u118, u119, u120, u121, u122, u123, u124, u125, u126, u127, u128, u129, u130, u131, u132, u133, u134, u135, u136, u137, u138, u139, u140, u141, u142, u143, u144, u145, u146, u147, u148, u149, u150, u151, u152, u153, u154, u155, u156, u157, u158, u159, u160, u161, u162, u163, u164, u165, u166, u167, u168, u169, u170, u171, u172, u173, u174, u175, u176, u177, u178, u179, u180, u181, u182, u183, u184, u185, u186, u187, u188, u189, u190, u191, u192], defers := [] } W') :
    (Code.region 17 #[{ dst := some 96, op := Op.load 25 (Operand.tmp 4), type := 25, pos := "law.go:40", after := #[], guard := none }, { dst := some 97, op := Op.move (Operand.tmp 0), type := 22, pos := "law.go:40", after := #[], guard := none }, { dst := some 98, op := Op.move (Operand.tmp 14), type := 3, pos := "law.go:40", after := #[], guard := none }, { dst := some 99, op := Op.indexAddr 22 (Operand.tmp 97) (Operand.tmp 98), type := 0, pos := "law.go:40", after := #[{ on := 1, ground := Ground.data }, { on := 2, ground := Ground.data }], guard := none }, { dst := some 100, op := Op.load 33 (Operand.tmp 99), type := 33, pos := "law.go:40", after := #[{ on := 3, ground := Ground.data }], guard := none }, { dst := some 101, op := Op.call { callee := Callee.value (Operand.func 13), args := #[Operand.tmp 96, Operand.tmp 100], argTypes := #[25, 33] }, type := 35, pos := "law.go:40", after := #[{ on := 0, ground := Ground.data }, { on := 4, ground := Ground.data }], guard := none }, { dst := some 95, op := Op.move (Operand.tmp 101), type := 35, pos := "law.go:40", after := #[{ on := 5, ground := Ground.data }], guard := none }, { dst := some 102, op := Op.extract (Operand.tmp 95) 0, type := 33, pos := "law.go:40", after := #[{ on := 6, ground := Ground.data }], guard := none }, { dst := some 103, op := Op.extract (Operand.tmp 95) 1, type := 34, pos := "law.go:40", after := #[{ on := 6, ground := Ground.data }, { on := 10, ground := Ground.gcOnly Departure.lateStores }], guard := none }, { dst := some 17, op := Op.alloc 33, type := 0, pos := "law.go:40", after := #[], guard := none }, { dst := none, op := Op.store 33 (Operand.tmp 17) (Operand.tmp 102), type := 0, pos := "law.go:40", after := #[{ on := 9, ground := Ground.data }, { on := 7, ground := Ground.data }, { on := 5, ground := Ground.chain }, { on := 0, ground := Ground.phase }, { on := 1, ground := Ground.phase }, { on := 2, ground := Ground.phase }, { on := 3, ground := Ground.phase }, { on := 4, ground := Ground.phase }, { on := 5, ground := Ground.phase }, { on := 6, ground := Ground.phase }, { on := 7, ground := Ground.phase }, { on := 8, ground := Ground.textOnly Departure.lateStores }, { on := 9, ground := Ground.phase }], guard := none }, { dst := some 18, op := Op.assign (Operand.tmp 103), type := 34, pos := "law.go:40", after := #[{ on := 8, ground := Ground.data }, { on := 10, ground := Ground.chain }, { on := 0, ground := Ground.phase }, { on := 1, ground := Ground.phase }, { on := 2, ground := Ground.phase }, { on := 3, ground := Ground.phase }, { on := 4, ground := Ground.phase }, { on := 5, ground := Ground.phase }, { on := 6, ground := Ground.phase }, { on := 7, ground := Ground.phase }, { on := 8, ground := Ground.phase }, { on := 9, ground := Ground.phase }, { on := 10, ground := Ground.phase }], guard := none }] true).wp Try.prog Q { tmps := #[.slice (some ⟨b, off, none⟩) len cap, u1, u2, u3, .pointer (some ⟨gm, 0, none⟩), u5, u6, u7, u8, u9, u10, u11, u12, u13, .int .i64 (k : Int), u15, u16, u17, u18, u19, u20, u21, u22, u23, u24, u25, u26, u27, u28, u29, u30, u31, u32, u33, u34, u35, u36, u37, u38, u39, u40, u41, u42, u43, u44, u45, u46, u47, u48, u49, u50, u51, u52, u53, u54, u55, u56, u57, u58, u59, u60, u61, u62, u63, u64, u65, u66, u67, u68, u69, u70, u71, u72, u73, u74, u75, u76, u77, u78, u79, u80, u81, u82, u83, u84, u85, u86, u87, u88, u89, u90, u91, u92, u93, u94, u95, u96, u97, u98, u99, u100, u101, u102, u103, u104, u105, u106, u107, u108, u109, u110, u111, u112, u113, u114, u115, u116, u117, u118, u119, u120, u121, u122, u123, u124, u125, u126, u127, u128, u129, u130, u131, u132, u133, u134, u135, u136, u137, u138, u139, u140, u141, u142, u143, u144, u145, u146, u147, u148, u149, u150, u151, u152, u153, u154, u155, u156, u157, u158, u159, u160, u161, u162, u163, u164, u165, u166, u167, u168, u169, u170, u171, u172, u173, u174, u175, u176, u177, u178, u179, u180, u181, u182, u183, u184, u185, u186, u187, u188, u189, u190, u191, u192], defers := [] } w := by
  have HK := Lib.hid hk
  clear hk
  have hsM := sizeM M
  have hu := Try.underlying25
  have HS := Lib.hid hs
  have Hc := Lib.hid hc
  clear hs hc
  refine wp_region_held_drew (S := fun w' => w'.rangeAt gm 0 [.int .i64 (M 0), .int .i64 (M 1), .int .i64 (M 2), .int .i64 (M 3), .int .i64 (M 4), .int .i64 (M 5), .int .i64 (M 6), .int .i64 (M 7), .int .i64 (M 8), .int .i64 (M 9), .int .i64 (M 10), .int .i64 (M 11)] ∧ w'.cell? ⟨b, off + k * 6, none⟩ = some (.int .i64 (B 0)) ∧ w'.cell? ⟨b, off + k * 6 + 1, none⟩ = some (.int .i64 (B 1)) ∧ w'.cell? ⟨b, off + k * 6 + 2, none⟩ = some (.int .i64 (B 2)) ∧ w'.cell? ⟨b, off + k * 6 + 3, none⟩ = some (.int .i64 (B 3)) ∧ w'.cell? ⟨b, off + k * 6 + 4, none⟩ = some (.int .i64 (B 4)) ∧ w'.cell? ⟨b, off + k * 6 + 5, none⟩ = some (.int .i64 (B 5))) (by kernel_rfl) (HS.out _ (bdrewn (Below.refl _ _))) (fun hHeld => ?_)
  refine wpAnyH_take (i := 0) (v := _) rfl (by kernel_rfl) (by kernel_rfl) (by kernel_rfl) (fun c a w h => hQ c a _ _ w h) (yieldsIf_load_mid (by rfl) _ _ rfl _ _ rfl _ _ (fun _ h => h.1) hu rfl hsM) hHeld ?_
  simp only [Act.put, List.getElem_toArray, List.getElem_cons_zero, List.setIfInBounds_toArray, List.set_cons_zero, List.set_cons_succ]
  refine wpAnyH_take (i := 1) (v := ?_) rfl (by kernel_rfl) (by kernel_rfl) (by kernel_rfl) (fun c a w h => hQ c a _ _ w h) (Or.inl ⟨by rfl, ?_⟩) hHeld ?_
  rotate_left
  · rintro w ⟨s0, s1, s2, s3, s4, s5, s6⟩
    go_simp
    with_reducible rfl
  simp only [Act.put, List.getElem_toArray, List.getElem_cons_zero, List.getElem_cons_succ, List.setIfInBounds_toArray, List.set_cons_zero, List.set_cons_succ]
  refine wpAnyH_take (i := 2) (v := ?_) rfl (by kernel_rfl) (by kernel_rfl) (by kernel_rfl) (fun c a w h => hQ c a _ _ w h) (Or.inl ⟨by rfl, ?_⟩) hHeld ?_
  rotate_left
  · rintro w ⟨s0, s1, s2, s3, s4, s5, s6⟩
    go_simp
    with_reducible rfl
  simp only [Act.put, List.getElem_toArray, List.getElem_cons_zero, List.getElem_cons_succ, List.setIfInBounds_toArray, List.set_cons_zero, List.set_cons_succ]
  refine wpAnyH_take (i := 3) (v := ?_) rfl (by kernel_rfl) (by kernel_rfl) (by kernel_rfl) (fun c a w h => hQ c a _ _ w h) (Or.inl ⟨by rfl, ?_⟩) hHeld ?_
  rotate_left
  · rintro w ⟨s0, s1, s2, s3, s4, s5, s6⟩
    go_simp
    with_reducible rfl
  simp only [Act.put, List.getElem_toArray, List.getElem_cons_zero, List.getElem_cons_succ, List.setIfInBounds_toArray, List.set_cons_zero, List.set_cons_succ]
  refine wpAnyH_take (i := 4) (v := ?_) rfl (by kernel_rfl) (by kernel_rfl) (by kernel_rfl) (fun c a w h => hQ c a _ _ w h) (Or.inl ⟨by rfl, ?_⟩) hHeld ?_
  rotate_left
  · rintro w ⟨s0, s1, s2, s3, s4, s5, s6⟩
    go_simp
    with_reducible rfl
  simp only [Act.put, List.getElem_toArray, List.getElem_cons_zero, List.getElem_cons_succ, List.setIfInBounds_toArray, List.set_cons_zero, List.set_cons_succ]
  refine fin (fun W => Below w.heap.size w W) (bdrewn (Below.refl _ _)) ?_
  clear hHeld
  rintro y0 hb0
  have HB0 := Lib.hid hb0
  clear hb0
  have hHeld := HS.out _ HB0.out
  refine wpAnyH_ready (rs := [5, 9]) (by kernel_rfl) (by simp) ?_
  refine AllReadyH.cons rfl (fun K hK => ?_) (AllReadyH.cons rfl (fun K hK => ?_) AllReadyH.nil)
  · skip
    go_simp
    go_at_call 13
    refine (Hc.out _).mono ?_
    rintro e x1 ⟨rfl, b1⟩
    go_wp2_with fail
    refine hK.out _ _ (HS.out _ (bthen HB0.out b1)) (fun hHeld => ?_)
    clear hK K hHeld
    refine fin (fun W => Below w.heap.size w W) (bthen HB0.out b1) ?_
    clear HB0
    rintro y2 hb0
    have HB0 := Lib.hid hb0
    clear hb0
    have hHeld := HS.out _ HB0.out
    clear b1
    refine wpAnyH_take (i := 6) (v := ?_) rfl (by kernel_rfl) (by kernel_rfl) (by kernel_rfl) (fun c a w h => hQ c a _ _ w h) (Or.inl ⟨by rfl, ?_⟩) hHeld ?_
    rotate_left
    · intro w hSw
      go_simp
      with_reducible rfl
    simp only [Act.put, List.getElem_toArray, List.getElem_cons_zero, List.getElem_cons_succ, List.setIfInBounds_toArray, List.set_cons_zero, List.set_cons_succ]
    refine wpAnyH_take (i := 7) (v := ?_) rfl (by kernel_rfl) (by kernel_rfl) (by kernel_rfl) (fun c a w h => hQ c a _ _ w h) (Or.inl ⟨by rfl, ?_⟩) hHeld ?_
    rotate_left
    · intro w hSw
      go_simp
      with_reducible rfl
    simp only [Act.put, List.getElem_toArray, List.getElem_cons_zero, List.getElem_cons_succ, List.setIfInBounds_toArray, List.set_cons_zero, List.set_cons_succ]
    refine wpAnyH_take (i := 8) (v := ?_) rfl (by kernel_rfl) (by kernel_rfl) (by kernel_rfl) (fun c a w h => hQ c a _ _ w h) (Or.inl ⟨by rfl, ?_⟩) hHeld ?_
    rotate_left
    · intro w hSw
      go_simp
      with_reducible rfl
    simp only [Act.put, List.getElem_toArray, List.getElem_cons_zero, List.getElem_cons_succ, List.setIfInBounds_toArray, List.set_cons_zero, List.set_cons_succ]
    refine wpAnyH_ready (rs := [9]) (by kernel_rfl) (by simp) ?_
    refine AllReadyH.cons rfl (fun K hK => ?_) AllReadyH.nil
    go_simp
    refine hK.out _ _ (HS.out _ (balloc HB0.out _)) (fun hHeld => ?_)
    clear hK K hHeld
    have hge : w.heap.size ≤ y2.heap.size := HB0.out.size
    refine fin (fun W => Below w.heap.size w W ∧ Blk W (y2.heap.size) 33 #[.int .i64 0, .int .i64 0, .int .i64 0, .int .i64 0, .int .i64 0, .int .i64 0]) ⟨balloc HB0.out _, Blk.new _ _ _⟩ ?_
    clear HB0
    rintro y3 ⟨hb0, hx⟩
    have HB0 := Lib.hid hb0
    have HX := Lib.hid hx
    clear hb0 hx
    have hHeld := HS.out _ HB0.out
    refine wpAnyH_ready (rs := [10]) (by kernel_rfl) (by simp) ?_
    refine AllReadyH.cons rfl (fun K hK => ?_) AllReadyH.nil
    obtain ⟨g0, g1, g2, g3, g4, g5, h0, h1, h2, h3, h4, h5⟩ := blk6 HX.out
    go_simp
    refine hK.out _ _ (HS.out _ (bset6 HB0.out hge)) (fun hHeld => ?_)
    clear hK K hHeld g0 g1 g2 g3 g4 g5 h0 h1 h2 h3 h4 h5
    refine fin (fun W => Below w.heap.size w W ∧ Blk W (y2.heap.size) 33 #[.int .i64 (C 0), .int .i64 (C 1), .int .i64 (C 2), .int .i64 (C 3), .int .i64 (C 4), .int .i64 (C 5)]) ⟨bset6 HB0.out hge, set6 HX.out⟩ ?_
    clear HB0 HX
    rintro y4 ⟨hb0, hx⟩
    have HB0 := Lib.hid hb0
    have HX := Lib.hid hx
    clear hb0 hx
    have hHeld := HS.out _ HB0.out
    clear hge
    refine wpAnyH_take (i := 11) (v := ?_) rfl (by kernel_rfl) (by kernel_rfl) (by kernel_rfl) (fun c a w h => hQ c a _ _ w h) (Or.inl ⟨by rfl, ?_⟩) hHeld ?_
    rotate_left
    · intro w hSw
      go_simp
      with_reducible rfl
    simp only [Act.put, List.getElem_toArray, List.getElem_cons_zero, List.getElem_cons_succ, List.setIfInBounds_toArray, List.set_cons_zero, List.set_cons_succ]
    refine wpAnyH_done (by kernel_rfl) ?_ _
    clear hHeld
    exact HK.out _ _ HX.out HB0.out
  · skip
    go_simp
    refine hK.out _ _ (HS.out _ (balloc HB0.out _)) (fun hHeld => ?_)
    clear hK K hHeld
    have hge : w.heap.size ≤ y0.heap.size := HB0.out.size
    refine fin (fun W => Below w.heap.size w W ∧ Blk W (y0.heap.size) 33 #[.int .i64 0, .int .i64 0, .int .i64 0, .int .i64 0, .int .i64 0, .int .i64 0]) ⟨balloc HB0.out _, Blk.new _ _ _⟩ ?_
    clear HB0
    rintro y5 ⟨hb0, hx⟩
    have HB0 := Lib.hid hb0
    have HX := Lib.hid hx
    clear hb0 hx
    have hHeld := HS.out _ HB0.out
    refine wpAnyH_ready (rs := [5]) (by kernel_rfl) (by simp) ?_
    refine AllReadyH.cons rfl (fun K hK => ?_) AllReadyH.nil
    go_simp
    go_at_call 13
    refine (Hc.out _).mono ?_
    rintro e x6 ⟨rfl, b1⟩
    go_wp2_with fail
    refine hK.out _ _ (HS.out _ (bthen HB0.out b1)) (fun hHeld => ?_)
    clear hK K hHeld
    refine fin (fun W => Below w.heap.size w W ∧ Blk W (y0.heap.size) 33 #[.int .i64 0, .int .i64 0, .int .i64 0, .int .i64 0, .int .i64 0, .int .i64 0]) ⟨bthen HB0.out b1, HX.out.keep b1⟩ ?_
    clear HB0 HX
    rintro y7 ⟨hb0, hx⟩
    have HB0 := Lib.hid hb0
    have HX := Lib.hid hx
    clear hb0 hx
    have hHeld := HS.out _ HB0.out
    clear b1
    refine wpAnyH_take (i := 6) (v := ?_) rfl (by kernel_rfl) (by kernel_rfl) (by kernel_rfl) (fun c a w h => hQ c a _ _ w h) (Or.inl ⟨by rfl, ?_⟩) hHeld ?_
    rotate_left
    · intro w hSw
      go_simp
      with_reducible rfl
    simp only [Act.put, List.getElem_toArray, List.getElem_cons_zero, List.getElem_cons_succ, List.setIfInBounds_toArray, List.set_cons_zero, List.set_cons_succ]
    refine wpAnyH_take (i := 7) (v := ?_) rfl (by kernel_rfl) (by kernel_rfl) (by kernel_rfl) (fun c a w h => hQ c a _ _ w h) (Or.inl ⟨by rfl, ?_⟩) hHeld ?_
    rotate_left
    · intro w hSw
      go_simp
      with_reducible rfl
    simp only [Act.put, List.getElem_toArray, List.getElem_cons_zero, List.getElem_cons_succ, List.setIfInBounds_toArray, List.set_cons_zero, List.set_cons_succ]
    refine wpAnyH_take (i := 8) (v := ?_) rfl (by kernel_rfl) (by kernel_rfl) (by kernel_rfl) (fun c a w h => hQ c a _ _ w h) (Or.inl ⟨by rfl, ?_⟩) hHeld ?_
    rotate_left
    · intro w hSw
      go_simp
      with_reducible rfl
    simp only [Act.put, List.getElem_toArray, List.getElem_cons_zero, List.getElem_cons_succ, List.setIfInBounds_toArray, List.set_cons_zero, List.set_cons_succ]
    refine wpAnyH_ready (rs := [10]) (by kernel_rfl) (by simp) ?_
    refine AllReadyH.cons rfl (fun K hK => ?_) AllReadyH.nil
    obtain ⟨g0, g1, g2, g3, g4, g5, h0, h1, h2, h3, h4, h5⟩ := blk6 HX.out
    go_simp
    refine hK.out _ _ (HS.out _ (bset6 HB0.out hge)) (fun hHeld => ?_)
    clear hK K hHeld g0 g1 g2 g3 g4 g5 h0 h1 h2 h3 h4 h5
    refine fin (fun W => Below w.heap.size w W ∧ Blk W (y0.heap.size) 33 #[.int .i64 (C 0), .int .i64 (C 1), .int .i64 (C 2), .int .i64 (C 3), .int .i64 (C 4), .int .i64 (C 5)]) ⟨bset6 HB0.out hge, set6 HX.out⟩ ?_
    clear HB0 HX
    rintro y8 ⟨hb0, hx⟩
    have HB0 := Lib.hid hb0
    have HX := Lib.hid hx
    clear hb0 hx
    have hHeld := HS.out _ HB0.out
    clear hge
    refine wpAnyH_take (i := 11) (v := ?_) rfl (by kernel_rfl) (by kernel_rfl) (by kernel_rfl) (fun c a w h => hQ c a _ _ w h) (Or.inl ⟨by rfl, ?_⟩) hHeld ?_
    rotate_left
    · intro w hSw
      go_simp
      with_reducible rfl
    simp only [Act.put, List.getElem_toArray, List.getElem_cons_zero, List.getElem_cons_succ, List.setIfInBounds_toArray, List.set_cons_zero, List.set_cons_succ]
    refine wpAnyH_done (by kernel_rfl) ?_ _
    clear hHeld
    exact HK.out _ _ HX.out HB0.out

end Go.Proofs.Ythdgldoailjhhaa
