/-
  A statement of the law AffineNumbers that draws its order: whichever it is, it leaves what the call answers in a new block.
-/
import Derived.Test.YtjdoneacbnalaaaAffR1
namespace Go.Proofs.Ytjdoneacbnalaaa
open Go.RowKit

set_option maxHeartbeats 4000000 in
set_option maxRecDepth 100000 in
theorem reg22 {u0 u1 u2 u3 u4 u6 u7 u8 u9 u10 u11 u12 u13 u14 u15 u16 u17 u18 u19 u20 u21 u22 u23 u24 u25 u26 u27 u28 u29 u30 u31 u32 u33 u34 u35 u36 u37 u38 u39 u40 u41 u42 u43 u44 u45 u46 u47 u48 u49 u50 u51 u52 u53 u54 u55 u56 u57 u58 u59 u60 u61 u62 u63 u64 u65 u66 u67 u68 u69 u70 u71 u72 u73 u74 u75 u76 u77 u78 u79 u80 u81 u82 u83 u84 u85 u86 u87 u88 u89 u90 u91 u92 u93 u94 u95 u96 u97 u98 u99 u100 u101 u102 u103 u104 u105 u106 u107 u108 u109 u110 u111 u112 u113 u114 u115 u116 u117 u118 u119 u120 u121 u122 u123 u124 u125 u126 u127 u128 u129 u130 u131 u132 u133 u134 u135 u136 u137 u138 u139 u140 u141 u142 u143 u144 u145 u146 u147 u148 u149 u150 u151 u152 u153 u154 u155 u156 u157 u158 u159 u160 u161 u162 u163 u164 u165 u166 u167 u168 u169 u170 u171 u172 u173 u174 u175 u176 u177 u178 u179 u180 u181 u182 u183 u184 u185 u186 u187 u188 u189 u190 u191 : Value} {Q : Exit → Act → World → Prop} {m : Nat → Int} {gm : Nat} {w : World}
    (hQ : ∀ c a d v w, Q (.panic c) (a.put d v) w → Q (.panic c) a w) (hm : Blk w gm 27 #[.int .i64 (m 0), .int .i64 (m 1), .int .i64 (m 2)])
    (hmul : ∀ w', Calls Try.prog 10 #[.agg #[.int .i64 65536, .int .i64 0, .int .i64 0, .int .i64 0, .int .i64 0, .int .i64 65536, .int .i64 0, .int .i64 0, .int .i64 0, .int .i64 0, .int .i64 65536, .int .i64 0], .agg #[.int .i64 (m 0), .int .i64 (m 1), .int .i64 (m 2)]] w' fun e w'' => e = .returned (.tuple #[.agg #[.int .i64 (m 0), .int .i64 (m 1), .int .i64 (m 2)], .int .i64 0]) ∧ Below w'.heap.size w' w'')
    (hk : ∀ G W', Blk W' G 27 #[.int .i64 (m 0), .int .i64 (m 1), .int .i64 (m 2)] → Below w.heap.size w W' → Q .normal { tmps := #[u0, u1, u2, u3, u4, .pointer (some ⟨gm, 0, none⟩), u6, u7, u8, u9, u10, u11, u12, u13, u14, u15, u16, u17, u18, u19, u20, u21, u22, u23, u24, u25, u26, u27, u28, u29, u30, .pointer (some ⟨G, 0, none⟩), .int .i64 0, u33, u34, u35, u36, u37, u38, u39, u40, u41, u42, u43, u44, u45, u46, u47, u48, u49, u50, u51, u52, u53, u54, u55, u56, u57, u58, u59, u60, u61, u62, u63, u64, u65, u66, u67, u68, u69, u70, u71, u72, u73, u74, u75, u76, u77, u78, u79, u80, u81, u82, u83, u84, u85, u86, u87, u88, u89, u90, u91, u92, u93, u94, u95, u96, u97, u98, u99, u100, u101, u102, u103, u104, u105, u106, u107, u108, u109, u110, u111, u112, u113, u114, u115, u116, u117, u118, u119, u120, u121, u122, u123, u124, u125, u126, u127, u128, u129, u130, u131, u132, u133, u134, u135, u136, u137, u138, u139, u140, u141, u142, u143, u144, u145, u146, u147, u148, u149, u150, u151, u152, u153, u154, u155, u156, u157, .tuple #[.agg #[.int .i64 (m 0), .int .i64 (m 1), .int .i64 (m 2)], .int .i64 0], .agg #[.int .i64 65536, .int .i64 0, .int .i64 0, .int .i64 0, .int .i64 0, .int .i64 65536, .int .i64 0, .int .i64 0, .int .i64 0, .int .i64 0, .int .i64 65536, .int .i64 0], .agg #[.int .i64 (m 0), .int .i64 (m 1), .int .i64 (m 2)], .tuple #[.agg #[.int .i64 (m 0), .int .i64 (m 1), .int .i64 (m 2)], .int .i64 0], .agg #[.int .i64 (m 0), .int .i64 (m 1), .int .i64 (m 2)], .int .i64 0, u164, u165, u166, u167, u168, u169, u170, u171, u172, u173, u174, u175, u176, u177, u178, u179, u180, u181, u182, u183, u184, u185, u186, u187, u188, u189, u190, u191], defers := [] } W') :
    (Code.region 22 #[{ dst := some 159, op := Op.call { callee := Callee.value (Operand.func 14), args := #[], argTypes := #[] }, type := 25, pos := "law.go:84", after := #[], guard := none }, { dst := some 160, op := Op.load 27 (Operand.tmp 5), type := 27, pos := "law.go:84", after := #[], guard := none }, { dst := some 161, op := Op.call { callee := Callee.value (Operand.func 10), args := #[Operand.tmp 159, Operand.tmp 160], argTypes := #[25, 27] }, type := 34, pos := "law.go:84", after := #[{ on := 0, ground := Ground.data }, { on := 1, ground := Ground.data }, { on := 0, ground := Ground.chain }], guard := none }, { dst := some 158, op := Op.move (Operand.tmp 161), type := 34, pos := "law.go:84", after := #[{ on := 2, ground := Ground.data }], guard := none }, { dst := some 162, op := Op.extract (Operand.tmp 158) 0, type := 27, pos := "law.go:84", after := #[{ on := 3, ground := Ground.data }], guard := none }, { dst := some 163, op := Op.extract (Operand.tmp 158) 1, type := 30, pos := "law.go:84", after := #[{ on := 3, ground := Ground.data }, { on := 7, ground := Ground.gcOnly Departure.lateStores }], guard := none }, { dst := some 31, op := Op.alloc 27, type := 0, pos := "law.go:84", after := #[], guard := none }, { dst := none, op := Op.store 27 (Operand.tmp 31) (Operand.tmp 162), type := 0, pos := "law.go:84", after := #[{ on := 6, ground := Ground.data }, { on := 4, ground := Ground.data }, { on := 2, ground := Ground.chain }, { on := 0, ground := Ground.phase }, { on := 1, ground := Ground.phase }, { on := 2, ground := Ground.phase }, { on := 3, ground := Ground.phase }, { on := 4, ground := Ground.phase }, { on := 5, ground := Ground.textOnly Departure.lateStores }, { on := 6, ground := Ground.phase }], guard := none }, { dst := some 32, op := Op.assign (Operand.tmp 163), type := 30, pos := "law.go:84", after := #[{ on := 5, ground := Ground.data }, { on := 7, ground := Ground.chain }, { on := 0, ground := Ground.phase }, { on := 1, ground := Ground.phase }, { on := 2, ground := Ground.phase }, { on := 3, ground := Ground.phase }, { on := 4, ground := Ground.phase }, { on := 5, ground := Ground.phase }, { on := 6, ground := Ground.phase }, { on := 7, ground := Ground.phase }], guard := none }] true).wp Try.prog Q { tmps := #[u0, u1, u2, u3, u4, .pointer (some ⟨gm, 0, none⟩), u6, u7, u8, u9, u10, u11, u12, u13, u14, u15, u16, u17, u18, u19, u20, u21, u22, u23, u24, u25, u26, u27, u28, u29, u30, u31, u32, u33, u34, u35, u36, u37, u38, u39, u40, u41, u42, u43, u44, u45, u46, u47, u48, u49, u50, u51, u52, u53, u54, u55, u56, u57, u58, u59, u60, u61, u62, u63, u64, u65, u66, u67, u68, u69, u70, u71, u72, u73, u74, u75, u76, u77, u78, u79, u80, u81, u82, u83, u84, u85, u86, u87, u88, u89, u90, u91, u92, u93, u94, u95, u96, u97, u98, u99, u100, u101, u102, u103, u104, u105, u106, u107, u108, u109, u110, u111, u112, u113, u114, u115, u116, u117, u118, u119, u120, u121, u122, u123, u124, u125, u126, u127, u128, u129, u130, u131, u132, u133, u134, u135, u136, u137, u138, u139, u140, u141, u142, u143, u144, u145, u146, u147, u148, u149, u150, u151, u152, u153, u154, u155, u156, u157, u158, u159, u160, u161, u162, u163, u164, u165, u166, u167, u168, u169, u170, u171, u172, u173, u174, u175, u176, u177, u178, u179, u180, u181, u182, u183, u184, u185, u186, u187, u188, u189, u190, u191], defers := [] } w := by
  have HMul := Lib.hid hmul
  have HK := Lib.hid hk
  clear hmul hk
  refine wp_region_held_drew (S := fun w' => w'.cell? ⟨gm, 0, none⟩ = some (.int .i64 (m 0)) ∧ w'.cell? ⟨gm, 1, none⟩ = some (.int .i64 (m 1)) ∧ w'.cell? ⟨gm, 2, none⟩ = some (.int .i64 (m 2))) (by kernel_rfl) (cells3 (Blk.drew hm)) (fun hHeld => ?_)
  refine wpAnyH_take (i := 1) (v := ?_) rfl (by kernel_rfl) (by kernel_rfl) (by kernel_rfl) (fun c a w h => hQ c a _ _ w h) (Or.inl ⟨by rfl, ?_⟩) hHeld ?_
  rotate_left
  · rintro w ⟨s0, s1, s2⟩
    go_simp
    with_reducible rfl
  simp only [Act.put, List.getElem_toArray, List.getElem_cons_zero, List.getElem_cons_succ, List.setIfInBounds_toArray, List.set_cons_zero, List.set_cons_succ]
  refine fin (fun W => Blk W gm 27 #[.int .i64 (m 0), .int .i64 (m 1), .int .i64 (m 2)] ∧ Below w.heap.size w W) ⟨Blk.drew hm, bdrewn (Below.refl _ _)⟩ ?_
  clear hm hHeld
  rintro y0 ⟨kk, hb0⟩
  have KK := Lib.hid kk
  have HB0 := Lib.hid hb0
  clear kk hb0
  have hHeld := cells3 (KK.out)
  refine wpAnyH_ready (rs := [0, 6]) (by kernel_rfl) (by simp) ?_
  refine AllReadyH.cons rfl (fun K hK => ?_) (AllReadyH.cons rfl (fun K hK => ?_) AllReadyH.nil)
  · skip
    go_simp
    go_at_call 14
    refine (same_any _).mono ?_
    rintro e x1 ⟨rfl, b1⟩
    go_wp2_with fail
    refine hK.out _ _ (cells3 (Blk.keep KK.out b1)) (fun hHeld => ?_)
    clear hK K hHeld
    refine fin (fun W => Blk W gm 27 #[.int .i64 (m 0), .int .i64 (m 1), .int .i64 (m 2)] ∧ Below w.heap.size w W) ⟨Blk.keep KK.out b1, bthen HB0.out b1⟩ ?_
    clear KK HB0
    rintro y2 ⟨kk, hb0⟩
    have KK := Lib.hid kk
    have HB0 := Lib.hid hb0
    clear kk hb0
    have hHeld := cells3 (KK.out)
    clear b1
    refine wpAnyH_ready (rs := [2, 6]) (by kernel_rfl) (by simp) ?_
    refine AllReadyH.cons rfl (fun K hK => ?_) (AllReadyH.cons rfl (fun K hK => ?_) AllReadyH.nil)
    · skip
      go_simp
      go_at_call 10
      refine (HMul.out _).mono ?_
      rintro e x3 ⟨rfl, b1⟩
      go_wp2_with fail
      refine hK.out _ _ (cells3 (Blk.keep KK.out b1)) (fun hHeld => ?_)
      clear hK K hHeld
      refine fin (fun W => Blk W gm 27 #[.int .i64 (m 0), .int .i64 (m 1), .int .i64 (m 2)] ∧ Below w.heap.size w W) ⟨Blk.keep KK.out b1, bthen HB0.out b1⟩ ?_
      clear KK HB0
      rintro y4 ⟨kk, hb0⟩
      have KK := Lib.hid kk
      have HB0 := Lib.hid hb0
      clear kk hb0
      have hHeld := cells3 (KK.out)
      clear b1
      refine wpAnyH_take (i := 3) (v := ?_) rfl (by kernel_rfl) (by kernel_rfl) (by kernel_rfl) (fun c a w h => hQ c a _ _ w h) (Or.inl ⟨by rfl, ?_⟩) hHeld ?_
      rotate_left
      · intro w hSw
        go_simp
        with_reducible rfl
      simp only [Act.put, List.getElem_toArray, List.getElem_cons_zero, List.getElem_cons_succ, List.setIfInBounds_toArray, List.set_cons_zero, List.set_cons_succ]
      refine wpAnyH_take (i := 4) (v := ?_) rfl (by kernel_rfl) (by kernel_rfl) (by kernel_rfl) (fun c a w h => hQ c a _ _ w h) (Or.inl ⟨by rfl, ?_⟩) hHeld ?_
      rotate_left
      · intro w hSw
        go_simp
        with_reducible rfl
      simp only [Act.put, List.getElem_toArray, List.getElem_cons_zero, List.getElem_cons_succ, List.setIfInBounds_toArray, List.set_cons_zero, List.set_cons_succ]
      refine wpAnyH_take (i := 5) (v := ?_) rfl (by kernel_rfl) (by kernel_rfl) (by kernel_rfl) (fun c a w h => hQ c a _ _ w h) (Or.inl ⟨by rfl, ?_⟩) hHeld ?_
      rotate_left
      · intro w hSw
        go_simp
        with_reducible rfl
      simp only [Act.put, List.getElem_toArray, List.getElem_cons_zero, List.getElem_cons_succ, List.setIfInBounds_toArray, List.set_cons_zero, List.set_cons_succ]
      refine wpAnyH_ready (rs := [6]) (by kernel_rfl) (by simp) ?_
      refine AllReadyH.cons rfl (fun K hK => ?_) AllReadyH.nil
      go_simp
      refine hK.out _ _ (cells3 (Blk.alloc KK.out _)) (fun hHeld => ?_)
      clear hK K hHeld
      have hne : gm ≠ y4.heap.size := by have := Blk.lt KK.out; omega
      have hge : w.heap.size ≤ y4.heap.size := HB0.out.size
      refine fin (fun W => Blk W gm 27 #[.int .i64 (m 0), .int .i64 (m 1), .int .i64 (m 2)] ∧ Below w.heap.size w W ∧ Blk W (y4.heap.size) 27 #[.int .i64 0, .int .i64 0, .int .i64 0]) ⟨Blk.alloc KK.out _, balloc HB0.out _, Blk.new _ _ _⟩ ?_
      clear KK HB0
      rintro y5 ⟨kk, hb0, hx⟩
      have KK := Lib.hid kk
      have HB0 := Lib.hid hb0
      have HX := Lib.hid hx
      clear kk hb0 hx
      have hHeld := cells3 (KK.out)
      refine wpAnyH_ready (rs := [7]) (by kernel_rfl) (by simp) ?_
      refine AllReadyH.cons rfl (fun K hK => ?_) AllReadyH.nil
      obtain ⟨g0, g1, g2, h0, h1, h2⟩ := blk3 HX.out
      go_simp
      refine hK.out _ _ (cells3 ((((KK.out.far (p := ⟨_, 0, none⟩) hne _).far (p := ⟨_, 1, none⟩) hne _).far (p := ⟨_, 2, none⟩) hne _))) (fun hHeld => ?_)
      clear hK K hHeld g0 h0 g1 h1 g2 h2
      refine fin (fun W => Blk W gm 27 #[.int .i64 (m 0), .int .i64 (m 1), .int .i64 (m 2)] ∧ Below w.heap.size w W ∧ Blk W (y4.heap.size) 27 #[.int .i64 (m 0), .int .i64 (m 1), .int .i64 (m 2)]) ⟨(((KK.out.far (p := ⟨_, 0, none⟩) hne _).far (p := ⟨_, 1, none⟩) hne _).far (p := ⟨_, 2, none⟩) hne _), bset3 HB0.out hge, set3 HX.out⟩ ?_
      clear KK HB0 HX
      rintro y6 ⟨kk, hb0, hx⟩
      have KK := Lib.hid kk
      have HB0 := Lib.hid hb0
      have HX := Lib.hid hx
      clear kk hb0 hx
      have hHeld := cells3 (KK.out)
      clear hne hge
      refine wpAnyH_take (i := 8) (v := ?_) rfl (by kernel_rfl) (by kernel_rfl) (by kernel_rfl) (fun c a w h => hQ c a _ _ w h) (Or.inl ⟨by rfl, ?_⟩) hHeld ?_
      rotate_left
      · intro w hSw
        go_simp
        with_reducible rfl
      simp only [Act.put, List.getElem_toArray, List.getElem_cons_zero, List.getElem_cons_succ, List.setIfInBounds_toArray, List.set_cons_zero, List.set_cons_succ]
      refine wpAnyH_done (by kernel_rfl) ?_ _
      clear hHeld
      exact HK.out _ _ HX.out HB0.out
    · skip
      go_simp
      refine hK.out _ _ (cells3 (Blk.alloc KK.out _)) (fun hHeld => ?_)
      clear hK K hHeld
      have hne : gm ≠ y2.heap.size := by have := Blk.lt KK.out; omega
      have hge : w.heap.size ≤ y2.heap.size := HB0.out.size
      refine fin (fun W => Blk W gm 27 #[.int .i64 (m 0), .int .i64 (m 1), .int .i64 (m 2)] ∧ Below w.heap.size w W ∧ Blk W (y2.heap.size) 27 #[.int .i64 0, .int .i64 0, .int .i64 0]) ⟨Blk.alloc KK.out _, balloc HB0.out _, Blk.new _ _ _⟩ ?_
      clear KK HB0
      rintro y7 ⟨kk, hb0, hx⟩
      have KK := Lib.hid kk
      have HB0 := Lib.hid hb0
      have HX := Lib.hid hx
      clear kk hb0 hx
      have hHeld := cells3 (KK.out)
      refine wpAnyH_ready (rs := [2]) (by kernel_rfl) (by simp) ?_
      refine AllReadyH.cons rfl (fun K hK => ?_) AllReadyH.nil
      go_simp
      go_at_call 10
      refine (HMul.out _).mono ?_
      rintro e x8 ⟨rfl, b1⟩
      go_wp2_with fail
      refine hK.out _ _ (cells3 (Blk.keep KK.out b1)) (fun hHeld => ?_)
      clear hK K hHeld
      refine fin (fun W => Blk W gm 27 #[.int .i64 (m 0), .int .i64 (m 1), .int .i64 (m 2)] ∧ Below w.heap.size w W ∧ Blk W (y2.heap.size) 27 #[.int .i64 0, .int .i64 0, .int .i64 0]) ⟨Blk.keep KK.out b1, bthen HB0.out b1, HX.out.keep b1⟩ ?_
      clear KK HB0 HX
      rintro y9 ⟨kk, hb0, hx⟩
      have KK := Lib.hid kk
      have HB0 := Lib.hid hb0
      have HX := Lib.hid hx
      clear kk hb0 hx
      have hHeld := cells3 (KK.out)
      clear b1
      refine wpAnyH_take (i := 3) (v := ?_) rfl (by kernel_rfl) (by kernel_rfl) (by kernel_rfl) (fun c a w h => hQ c a _ _ w h) (Or.inl ⟨by rfl, ?_⟩) hHeld ?_
      rotate_left
      · intro w hSw
        go_simp
        with_reducible rfl
      simp only [Act.put, List.getElem_toArray, List.getElem_cons_zero, List.getElem_cons_succ, List.setIfInBounds_toArray, List.set_cons_zero, List.set_cons_succ]
      refine wpAnyH_take (i := 4) (v := ?_) rfl (by kernel_rfl) (by kernel_rfl) (by kernel_rfl) (fun c a w h => hQ c a _ _ w h) (Or.inl ⟨by rfl, ?_⟩) hHeld ?_
      rotate_left
      · intro w hSw
        go_simp
        with_reducible rfl
      simp only [Act.put, List.getElem_toArray, List.getElem_cons_zero, List.getElem_cons_succ, List.setIfInBounds_toArray, List.set_cons_zero, List.set_cons_succ]
      refine wpAnyH_take (i := 5) (v := ?_) rfl (by kernel_rfl) (by kernel_rfl) (by kernel_rfl) (fun c a w h => hQ c a _ _ w h) (Or.inl ⟨by rfl, ?_⟩) hHeld ?_
      rotate_left
      · intro w hSw
        go_simp
        with_reducible rfl
      simp only [Act.put, List.getElem_toArray, List.getElem_cons_zero, List.getElem_cons_succ, List.setIfInBounds_toArray, List.set_cons_zero, List.set_cons_succ]
      refine wpAnyH_ready (rs := [7]) (by kernel_rfl) (by simp) ?_
      refine AllReadyH.cons rfl (fun K hK => ?_) AllReadyH.nil
      obtain ⟨g0, g1, g2, h0, h1, h2⟩ := blk3 HX.out
      go_simp
      refine hK.out _ _ (cells3 ((((KK.out.far (p := ⟨_, 0, none⟩) hne _).far (p := ⟨_, 1, none⟩) hne _).far (p := ⟨_, 2, none⟩) hne _))) (fun hHeld => ?_)
      clear hK K hHeld g0 h0 g1 h1 g2 h2
      refine fin (fun W => Blk W gm 27 #[.int .i64 (m 0), .int .i64 (m 1), .int .i64 (m 2)] ∧ Below w.heap.size w W ∧ Blk W (y2.heap.size) 27 #[.int .i64 (m 0), .int .i64 (m 1), .int .i64 (m 2)]) ⟨(((KK.out.far (p := ⟨_, 0, none⟩) hne _).far (p := ⟨_, 1, none⟩) hne _).far (p := ⟨_, 2, none⟩) hne _), bset3 HB0.out hge, set3 HX.out⟩ ?_
      clear KK HB0 HX
      rintro y10 ⟨kk, hb0, hx⟩
      have KK := Lib.hid kk
      have HB0 := Lib.hid hb0
      have HX := Lib.hid hx
      clear kk hb0 hx
      have hHeld := cells3 (KK.out)
      clear hne hge
      refine wpAnyH_take (i := 8) (v := ?_) rfl (by kernel_rfl) (by kernel_rfl) (by kernel_rfl) (fun c a w h => hQ c a _ _ w h) (Or.inl ⟨by rfl, ?_⟩) hHeld ?_
      rotate_left
      · intro w hSw
        go_simp
        with_reducible rfl
      simp only [Act.put, List.getElem_toArray, List.getElem_cons_zero, List.getElem_cons_succ, List.setIfInBounds_toArray, List.set_cons_zero, List.set_cons_succ]
      refine wpAnyH_done (by kernel_rfl) ?_ _
      clear hHeld
      exact HK.out _ _ HX.out HB0.out
  · skip
    go_simp
    refine hK.out _ _ (cells3 (Blk.alloc KK.out _)) (fun hHeld => ?_)
    clear hK K hHeld
    have hne : gm ≠ y0.heap.size := by have := Blk.lt KK.out; omega
    have hge : w.heap.size ≤ y0.heap.size := HB0.out.size
    refine fin (fun W => Blk W gm 27 #[.int .i64 (m 0), .int .i64 (m 1), .int .i64 (m 2)] ∧ Below w.heap.size w W ∧ Blk W (y0.heap.size) 27 #[.int .i64 0, .int .i64 0, .int .i64 0]) ⟨Blk.alloc KK.out _, balloc HB0.out _, Blk.new _ _ _⟩ ?_
    clear KK HB0
    rintro y11 ⟨kk, hb0, hx⟩
    have KK := Lib.hid kk
    have HB0 := Lib.hid hb0
    have HX := Lib.hid hx
    clear kk hb0 hx
    have hHeld := cells3 (KK.out)
    refine wpAnyH_ready (rs := [0]) (by kernel_rfl) (by simp) ?_
    refine AllReadyH.cons rfl (fun K hK => ?_) AllReadyH.nil
    go_simp
    go_at_call 14
    refine (same_any _).mono ?_
    rintro e x12 ⟨rfl, b1⟩
    go_wp2_with fail
    refine hK.out _ _ (cells3 (Blk.keep KK.out b1)) (fun hHeld => ?_)
    clear hK K hHeld
    refine fin (fun W => Blk W gm 27 #[.int .i64 (m 0), .int .i64 (m 1), .int .i64 (m 2)] ∧ Below w.heap.size w W ∧ Blk W (y0.heap.size) 27 #[.int .i64 0, .int .i64 0, .int .i64 0]) ⟨Blk.keep KK.out b1, bthen HB0.out b1, HX.out.keep b1⟩ ?_
    clear KK HB0 HX
    rintro y13 ⟨kk, hb0, hx⟩
    have KK := Lib.hid kk
    have HB0 := Lib.hid hb0
    have HX := Lib.hid hx
    clear kk hb0 hx
    have hHeld := cells3 (KK.out)
    clear b1
    refine wpAnyH_ready (rs := [2]) (by kernel_rfl) (by simp) ?_
    refine AllReadyH.cons rfl (fun K hK => ?_) AllReadyH.nil
    go_simp
    go_at_call 10
    refine (HMul.out _).mono ?_
    rintro e x14 ⟨rfl, b1⟩
    go_wp2_with fail
    refine hK.out _ _ (cells3 (Blk.keep KK.out b1)) (fun hHeld => ?_)
    clear hK K hHeld
    refine fin (fun W => Blk W gm 27 #[.int .i64 (m 0), .int .i64 (m 1), .int .i64 (m 2)] ∧ Below w.heap.size w W ∧ Blk W (y0.heap.size) 27 #[.int .i64 0, .int .i64 0, .int .i64 0]) ⟨Blk.keep KK.out b1, bthen HB0.out b1, HX.out.keep b1⟩ ?_
    clear KK HB0 HX
    rintro y15 ⟨kk, hb0, hx⟩
    have KK := Lib.hid kk
    have HB0 := Lib.hid hb0
    have HX := Lib.hid hx
    clear kk hb0 hx
    have hHeld := cells3 (KK.out)
    clear b1
    refine wpAnyH_take (i := 3) (v := ?_) rfl (by kernel_rfl) (by kernel_rfl) (by kernel_rfl) (fun c a w h => hQ c a _ _ w h) (Or.inl ⟨by rfl, ?_⟩) hHeld ?_
    rotate_left
    · intro w hSw
      go_simp
      with_reducible rfl
    simp only [Act.put, List.getElem_toArray, List.getElem_cons_zero, List.getElem_cons_succ, List.setIfInBounds_toArray, List.set_cons_zero, List.set_cons_succ]
    refine wpAnyH_take (i := 4) (v := ?_) rfl (by kernel_rfl) (by kernel_rfl) (by kernel_rfl) (fun c a w h => hQ c a _ _ w h) (Or.inl ⟨by rfl, ?_⟩) hHeld ?_
    rotate_left
    · intro w hSw
      go_simp
      with_reducible rfl
    simp only [Act.put, List.getElem_toArray, List.getElem_cons_zero, List.getElem_cons_succ, List.setIfInBounds_toArray, List.set_cons_zero, List.set_cons_succ]
    refine wpAnyH_take (i := 5) (v := ?_) rfl (by kernel_rfl) (by kernel_rfl) (by kernel_rfl) (fun c a w h => hQ c a _ _ w h) (Or.inl ⟨by rfl, ?_⟩) hHeld ?_
    rotate_left
    · intro w hSw
      go_simp
      with_reducible rfl
    simp only [Act.put, List.getElem_toArray, List.getElem_cons_zero, List.getElem_cons_succ, List.setIfInBounds_toArray, List.set_cons_zero, List.set_cons_succ]
    refine wpAnyH_ready (rs := [7]) (by kernel_rfl) (by simp) ?_
    refine AllReadyH.cons rfl (fun K hK => ?_) AllReadyH.nil
    obtain ⟨g0, g1, g2, h0, h1, h2⟩ := blk3 HX.out
    go_simp
    refine hK.out _ _ (cells3 ((((KK.out.far (p := ⟨_, 0, none⟩) hne _).far (p := ⟨_, 1, none⟩) hne _).far (p := ⟨_, 2, none⟩) hne _))) (fun hHeld => ?_)
    clear hK K hHeld g0 h0 g1 h1 g2 h2
    refine fin (fun W => Blk W gm 27 #[.int .i64 (m 0), .int .i64 (m 1), .int .i64 (m 2)] ∧ Below w.heap.size w W ∧ Blk W (y0.heap.size) 27 #[.int .i64 (m 0), .int .i64 (m 1), .int .i64 (m 2)]) ⟨(((KK.out.far (p := ⟨_, 0, none⟩) hne _).far (p := ⟨_, 1, none⟩) hne _).far (p := ⟨_, 2, none⟩) hne _), bset3 HB0.out hge, set3 HX.out⟩ ?_
    clear KK HB0 HX
    rintro y16 ⟨kk, hb0, hx⟩
    have KK := Lib.hid kk
    have HB0 := Lib.hid hb0
    have HX := Lib.hid hx
    clear kk hb0 hx
    have hHeld := cells3 (KK.out)
    clear hne hge
    refine wpAnyH_take (i := 8) (v := ?_) rfl (by kernel_rfl) (by kernel_rfl) (by kernel_rfl) (fun c a w h => hQ c a _ _ w h) (Or.inl ⟨by rfl, ?_⟩) hHeld ?_
    rotate_left
    · intro w hSw
      go_simp
      with_reducible rfl
    simp only [Act.put, List.getElem_toArray, List.getElem_cons_zero, List.getElem_cons_succ, List.setIfInBounds_toArray, List.set_cons_zero, List.set_cons_succ]
    refine wpAnyH_done (by kernel_rfl) ?_ _
    clear hHeld
    exact HK.out _ _ HX.out HB0.out

end Go.Proofs.Ytjdoneacbnalaaa
