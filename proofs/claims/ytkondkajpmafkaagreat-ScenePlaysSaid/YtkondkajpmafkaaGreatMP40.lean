/-
  Two statements of 'same' of the law of layer 11 that draw their order, for any frame; equal nodes.
-/
import Derived.Test.YtkondkajpmafkaaGreatMP39
namespace Go.Proofs.YtkondkajpmafkaaGreat
open Go.RowKit

set_option maxHeartbeats 2000000 in
set_option maxRecDepth 10000 in
theorem eqNdR (s : Nd) (w : World) : (Op.equalIn 10000 101 (.agg (cNd s).toArray) (.agg (cNd s).toArray)).run Tryz.prog w = .ok true w := by
  have hM : ∀ n w, (Op.equalIn (n + 1 + 1) 37 (.agg #[.int .i64 (s.pl 0), .int .i64 (s.pl 1), .int .i64 (s.pl 2), .int .i64 (s.pl 3), .int .i64 (s.pl 4), .int .i64 (s.pl 5), .int .i64 (s.pl 6), .int .i64 (s.pl 7), .int .i64 (s.pl 8), .int .i64 (s.pl 9), .int .i64 (s.pl 10), .int .i64 (s.pl 11)]) (.agg #[.int .i64 (s.pl 0), .int .i64 (s.pl 1), .int .i64 (s.pl 2), .int .i64 (s.pl 3), .int .i64 (s.pl 4), .int .i64 (s.pl 5), .int .i64 (s.pl 6), .int .i64 (s.pl 7), .int .i64 (s.pl 8), .int .i64 (s.pl 9), .int .i64 (s.pl 10), .int .i64 (s.pl 11)])).run Tryz.prog w = .ok true w := fun n w => (eqMatB n _ _ _ _ _ _ _ _ _ _ _ _ _ _ _ _ _ _ _ _ _ _ _ _ w).trans (by simp)
  have a1 := Tryz.isAgg37
  have z1 := Tryz.sizeOf37
  have u5 := Tryz.underlying4
  have a5 := Tryz.isAgg4
  have z5 := Tryz.sizeOf4
  have u6 := Tryz.underlying31
  have a6 := Tryz.isAgg31
  have z6 := Tryz.sizeOf31
  unfold cNd
  rw [show (10000 : Nat) = 9997 + 1 + 1 + 1 from rfl, Op.equalIn]
  simp only [Sem.run_bind, run_underlying Tryz.underlying101, Result.andThen_ok]
  go_simp
set_option maxHeartbeats 8000000 in
set_option maxRecDepth 100000 in
theorem same_r11 {u0 u2 u3 u4 u5 u6 u8 u9 u10 u12 u13 u14 u15 u16 u17 u18 u19 u20 u21 u22 u23 u24 u25 u26 u27 u28 u29 u30 u31 u32 u33 u34 u35 u36 u37 u38 u39 u40 u41 u42 u43 u44 u45 u46 u47 u48 u49 u50 u51 u52 u53 u54 u55 u56 u57 u58 u59 u60 u61 u62 u63 u64 u65 u66 u67 u68 u69 u70 u71 u72 u73 u74 u75 u76 u77 u78 u79 u80 u81 u82 u83 u84 u85 u86 u87 u88 u89 u90 u91 u92 u93 u94 u95 u96 u97 u98 u99 u100 u101 u102 u103 u104 u105 u106 u107 u108 u109 u110 u111 u112 u113 u114 u115 u116 u117 u118 u119 u120 u121 u122 u123 u124 u125 u126 u127 u128 u129 u130 u131 u132 u133 u134 u135 u136 u137 u138 u139 u140 u141 u142 u143 u144 u145 u146 u147 u148 u149 u150 u151 u152 u153 u154 u155 u156 u157 u158 u159 u160 u161 u162 u163 u164 u165 u166 u167 u168 u169 u170 u171 u172 u173 : Value} {Q : Exit → Go.Act → World → Prop} {g gs ab aoff n lcap j : Nat} {y : Int} {XP : List Value} {ok : Bool} {w : World}
    (hQ : ∀ c a d v w, Q (.panic c) (a.put d v) w → Q (.panic c) a w)
    (hj0 : (0 : Int) ≤ (j : Int)) (hj1 : (j : Int) < (n : Int))
    (hS : ∀ W, Below w.heap.size w W → (W.cell? ⟨g, 0, none⟩ = some (.pointer (some ⟨gs, 0, none⟩)) ∧ W.cell? ⟨ab, aoff + j, none⟩ = some (.int .i64 y)))
    (hc : ∀ W, Below w.heap.size w W → Calls Tryz.prog 42 #[.pointer (some ⟨gs, 0, none⟩), .int .i64 y] W fun e w' => e = .returned (.tuple #[.agg XP.toArray, .bool ok]) ∧ Below W.heap.size W w')
    (hX : PXs XP)
    (hk : ∀ W' a14, Below w.heap.size w W' → Blk W' a14 43 XP.toArray → Q .normal { tmps := #[u0, .pointer (some ⟨g, 0, none⟩), u2, u3, u4, u5, u6, .slice (some ⟨ab, aoff, none⟩) n lcap, u8, u9, u10, .int .i64 (j : Int), u12, u13, .pointer (some ⟨a14, 0, none⟩), .bool ok, u16, u17, u18, u19, u20, u21, u22, u23, u24, u25, u26, u27, u28, u29, u30, u31, u32, u33, u34, u35, u36, u37, u38, u39, u40, u41, u42, u43, u44, u45, u46, u47, u48, u49, u50, u51, u52, u53, u54, u55, u56, u57, u58, u59, u60, u61, u62, u63, u64, u65, u66, u67, u68, u69, u70, u71, u72, u73, u74, u75, u76, u77, u78, u79, u80, u81, u82, u83, u84, u85, u86, u87, u88, u89, u90, u91, .tuple #[.agg XP.toArray, .bool ok], .pointer (some ⟨g, 0, none⟩), .pointer (some ⟨g, 0, none⟩), .pointer (some ⟨g, 0, none⟩), .pointer (some ⟨gs, 0, none⟩), .slice (some ⟨ab, aoff, none⟩) n lcap, .int .i64 (j : Int), .pointer (some ⟨ab, aoff + j, none⟩), .int .i64 y, .tuple #[.agg XP.toArray, .bool ok], .agg XP.toArray, .bool ok, u104, u105, u106, u107, u108, u109, u110, u111, u112, u113, u114, u115, u116, u117, u118, u119, u120, u121, u122, u123, u124, u125, u126, u127, u128, u129, u130, u131, u132, u133, u134, u135, u136, u137, u138, u139, u140, u141, u142, u143, u144, u145, u146, u147, u148, u149, u150, u151, u152, u153, u154, u155, u156, u157, u158, u159, u160, u161, u162, u163, u164, u165, u166, u167, u168, u169, u170, u171, u172, u173], defers := [] } W') :
    (Code.region 11 #[{ dst := some 93, op := Op.move (Operand.tmp 1), type := 29, pos := "law.go:107", after := #[], guard := none }, { dst := some 94, op := Op.nilCheck (Operand.tmp 93), type := 0, pos := "law.go:107", after := #[{ on := 0, ground := Ground.data }], guard := none }, { dst := some 95, op := Op.fieldAddr 82 (Operand.tmp 94) 0, type := 0, pos := "law.go:107", after := #[{ on := 1, ground := Ground.data }], guard := none }, { dst := some 96, op := Op.load 76 (Operand.tmp 95), type := 76, pos := "law.go:107", after := #[{ on := 2, ground := Ground.data }], guard := none }, { dst := some 97, op := Op.move (Operand.tmp 7), type := 53, pos := "law.go:107", after := #[], guard := none }, { dst := some 98, op := Op.move (Operand.tmp 11), type := 3, pos := "law.go:107", after := #[], guard := none }, { dst := some 99, op := Op.indexAddr 53 (Operand.tmp 97) (Operand.tmp 98), type := 0, pos := "law.go:107", after := #[{ on := 4, ground := Ground.data }, { on := 5, ground := Ground.data }], guard := none }, { dst := some 100, op := Op.load 31 (Operand.tmp 99), type := 31, pos := "law.go:107", after := #[{ on := 6, ground := Ground.data }], guard := none }, { dst := some 101, op := Op.call { callee := Callee.value (Operand.func 42), args := #[Operand.tmp 96, Operand.tmp 100], argTypes := #[76, 31] }, type := 59, pos := "law.go:107", after := #[{ on := 3, ground := Ground.data }, { on := 7, ground := Ground.data }], guard := none }, { dst := some 92, op := Op.move (Operand.tmp 101), type := 59, pos := "law.go:107", after := #[{ on := 8, ground := Ground.data }], guard := none }, { dst := some 102, op := Op.extract (Operand.tmp 92) 0, type := 43, pos := "law.go:107", after := #[{ on := 9, ground := Ground.data }], guard := none }, { dst := some 103, op := Op.extract (Operand.tmp 92) 1, type := 4, pos := "law.go:107", after := #[{ on := 9, ground := Ground.data }, { on := 13, ground := Ground.gcOnly Departure.lateStores }], guard := none }, { dst := some 14, op := Op.alloc 43, type := 0, pos := "law.go:107", after := #[], guard := none }, { dst := none, op := Op.store 43 (Operand.tmp 14) (Operand.tmp 102), type := 0, pos := "law.go:107", after := #[{ on := 12, ground := Ground.data }, { on := 10, ground := Ground.data }, { on := 8, ground := Ground.chain }, { on := 0, ground := Ground.phase }, { on := 1, ground := Ground.phase }, { on := 2, ground := Ground.phase }, { on := 3, ground := Ground.phase }, { on := 4, ground := Ground.phase }, { on := 5, ground := Ground.phase }, { on := 6, ground := Ground.phase }, { on := 7, ground := Ground.phase }, { on := 8, ground := Ground.phase }, { on := 9, ground := Ground.phase }, { on := 10, ground := Ground.phase }, { on := 11, ground := Ground.textOnly Departure.lateStores }, { on := 12, ground := Ground.phase }], guard := none }, { dst := some 15, op := Op.assign (Operand.tmp 103), type := 4, pos := "law.go:107", after := #[{ on := 11, ground := Ground.data }, { on := 13, ground := Ground.chain }, { on := 0, ground := Ground.phase }, { on := 1, ground := Ground.phase }, { on := 2, ground := Ground.phase }, { on := 3, ground := Ground.phase }, { on := 4, ground := Ground.phase }, { on := 5, ground := Ground.phase }, { on := 6, ground := Ground.phase }, { on := 7, ground := Ground.phase }, { on := 8, ground := Ground.phase }, { on := 9, ground := Ground.phase }, { on := 10, ground := Ground.phase }, { on := 11, ground := Ground.phase }, { on := 12, ground := Ground.phase }, { on := 13, ground := Ground.phase }], guard := none }] true).wp Tryz.prog Q { tmps := #[u0, .pointer (some ⟨g, 0, none⟩), u2, u3, u4, u5, u6, .slice (some ⟨ab, aoff, none⟩) n lcap, u8, u9, u10, .int .i64 (j : Int), u12, u13, u14, u15, u16, u17, u18, u19, u20, u21, u22, u23, u24, u25, u26, u27, u28, u29, u30, u31, u32, u33, u34, u35, u36, u37, u38, u39, u40, u41, u42, u43, u44, u45, u46, u47, u48, u49, u50, u51, u52, u53, u54, u55, u56, u57, u58, u59, u60, u61, u62, u63, u64, u65, u66, u67, u68, u69, u70, u71, u72, u73, u74, u75, u76, u77, u78, u79, u80, u81, u82, u83, u84, u85, u86, u87, u88, u89, u90, u91, u92, u93, u94, u95, u96, u97, u98, u99, u100, u101, u102, u103, u104, u105, u106, u107, u108, u109, u110, u111, u112, u113, u114, u115, u116, u117, u118, u119, u120, u121, u122, u123, u124, u125, u126, u127, u128, u129, u130, u131, u132, u133, u134, u135, u136, u137, u138, u139, u140, u141, u142, u143, u144, u145, u146, u147, u148, u149, u150, u151, u152, u153, u154, u155, u156, u157, u158, u159, u160, u161, u162, u163, u164, u165, u166, u167, u168, u169, u170, u171, u172, u173], defers := [] } w := by
  have HK := Lib.hid hk
  have HS := Lib.hid hS
  have HCa := Lib.hid hc
  have HX := Lib.hid hX
  clear hk hS hc hX
  refine wp_region_held_drew (S := fun w' => w'.cell? ⟨g, 0, none⟩ = some (.pointer (some ⟨gs, 0, none⟩)) ∧ w'.cell? ⟨ab, aoff + j, none⟩ = some (.int .i64 y)) (by kernel_rfl) (HS.out _ (drew_below _)) (fun hHeld => ?_)
  refine tk 0 hHeld ?_ (hQ := fun c a w h => hQ c a _ _ w h)
  refine tk 1 hHeld ?_ (hQ := fun c a w h => hQ c a _ _ w h)
  refine tk 2 hHeld ?_ (hQ := fun c a w h => hQ c a _ _ w h)
  refine tk 3 hHeld ?_ (hQ := fun c a w h => hQ c a _ _ w h)
  refine tk 4 hHeld ?_ (hQ := fun c a w h => hQ c a _ _ w h)
  refine tk 5 hHeld ?_ (hQ := fun c a w h => hQ c a _ _ w h)
  refine tk 6 hHeld ?_ (hQ := fun c a w h => hQ c a _ _ w h)
  refine tk 7 hHeld ?_ (hQ := fun c a w h => hQ c a _ _ w h)
  refine fin (fun W => Below w.heap.size w W) (drew_below _) ?_
  clear hHeld
  rintro y0 hb0
  have HB0 := Lib.hid hb0
  clear hb0
  have hHeld := HS.out _ HB0.out
  refine wpAnyH_ready (rs := [8, 12]) (by kernel_rfl) (by simp) ?_
  refine AllReadyH.cons rfl (fun K hK => ?_) (AllReadyH.cons rfl (fun K hK => ?_) AllReadyH.nil)
  · skip
    go_simp
    go_at_call 42
    refine (HCa.out _ HB0.out).mono ?_
    rintro e x1 ⟨rfl, b1⟩
    go_wp2_with fail
    refine hK.out _ _ (HS.out _ (bthen HB0.out b1)) (fun hHeld => ?_)
    clear hK K
    replace HB0 := Lib.hid (bthen HB0.out b1)
    clear b1
    refine tk 9 hHeld ?_ (hQ := fun c a w h => hQ c a _ _ w h)
    refine tk 10 hHeld ?_ (hQ := fun c a w h => hQ c a _ _ w h)
    refine tk 11 hHeld ?_ (hQ := fun c a w h => hQ c a _ _ w h)
    refine rd 12 (fun K hK => ?_)
    go_simp
    have h14 : w.heap.size ≤ x1.heap.size := HB0.out.size
    refine hK.out _ _ (HS.out _ (balloc HB0.out _)) (fun hHeld => ?_)
    clear hK K hHeld
    refine fin (fun W => Blk W x1.heap.size 43 Z24.toArray ∧ Below w.heap.size w W) ⟨Blk.new _ _ _, balloc HB0.out _⟩ ?_
    clear HB0
    obtain ⟨a14, hgen⟩ : ∃ n, n = x1.heap.size := ⟨_, rfl⟩
    rw [← hgen] at h14 ⊢
    clear hgen
    rintro y2 ⟨k14, hb0⟩
    have K14 := Lib.hid k14
    have HB0 := Lib.hid hb0
    clear k14 hb0
    have hHeld := HS.out _ HB0.out
    refine rd 13 (fun K hK => ?_)
    try rw [if_pos (by rfl)]
    refine wp_store_mid 43 (.tmp 14) (.tmp 102) rfl a14 0 XP.toArray rfl rfl (blk_there K14.out (by rw [List.size_toArray, HX.out.1]; exact Nat.le_refl 24)) HX.out.2.2.1 HX.out.2.2.2 ?_
    have HB9 := Lib.hid (below_setCells (o := 0) XP HB0.out h14)
    refine hK.out _ _ (HS.out _ HB9.out) (fun hHeld => ?_)
    clear hK K
    refine tk 14 hHeld ?_ (hQ := fun c a w h => hQ c a _ _ w h)
    refine wpAnyH_done (by kernel_rfl) ?_ _
    clear hHeld
    exact HK.out _ a14 HB9.out (blk_over K14.out (by rw [HX.out.1]; rfl))
  · skip
    go_simp
    have h14 : w.heap.size ≤ y0.heap.size := HB0.out.size
    refine hK.out _ _ (HS.out _ (balloc HB0.out _)) (fun hHeld => ?_)
    clear hK K hHeld
    refine fin (fun W => Blk W y0.heap.size 43 Z24.toArray ∧ Below w.heap.size w W) ⟨Blk.new _ _ _, balloc HB0.out _⟩ ?_
    clear HB0
    obtain ⟨a14, hgen⟩ : ∃ n, n = y0.heap.size := ⟨_, rfl⟩
    rw [← hgen] at h14 ⊢
    clear hgen
    rintro y1 ⟨k14, hb0⟩
    have K14 := Lib.hid k14
    have HB0 := Lib.hid hb0
    clear k14 hb0
    have hHeld := HS.out _ HB0.out
    refine rd 8 (fun K hK => ?_)
    go_simp
    go_at_call 42
    refine (HCa.out _ HB0.out).mono ?_
    rintro e x1 ⟨rfl, b1⟩
    go_wp2_with fail
    refine hK.out _ _ (HS.out _ (bthen HB0.out b1)) (fun hHeld => ?_)
    clear hK K
    replace K14 := Lib.hid (K14.out.keep b1)
    replace HB0 := Lib.hid (bthen HB0.out b1)
    clear b1
    refine tk 9 hHeld ?_ (hQ := fun c a w h => hQ c a _ _ w h)
    refine tk 10 hHeld ?_ (hQ := fun c a w h => hQ c a _ _ w h)
    refine tk 11 hHeld ?_ (hQ := fun c a w h => hQ c a _ _ w h)
    refine rd 13 (fun K hK => ?_)
    try rw [if_pos (by rfl)]
    refine wp_store_mid 43 (.tmp 14) (.tmp 102) rfl a14 0 XP.toArray rfl rfl (blk_there K14.out (by rw [List.size_toArray, HX.out.1]; exact Nat.le_refl 24)) HX.out.2.2.1 HX.out.2.2.2 ?_
    have HB9 := Lib.hid (below_setCells (o := 0) XP HB0.out h14)
    refine hK.out _ _ (HS.out _ HB9.out) (fun hHeld => ?_)
    clear hK K
    refine tk 14 hHeld ?_ (hQ := fun c a w h => hQ c a _ _ w h)
    refine wpAnyH_done (by kernel_rfl) ?_ _
    clear hHeld
    exact HK.out _ a14 HB9.out (blk_over K14.out (by rw [HX.out.1]; rfl))
set_option maxHeartbeats 8000000 in
set_option maxRecDepth 100000 in
theorem same_r16 {u0 u1 u2 u3 u4 u5 u6 u7 u8 u9 u10 u11 u24 u25 u26 u27 u28 u29 u30 u31 u32 u33 u34 u35 u36 u37 u38 u39 u40 u41 u42 u43 u44 u45 u46 u47 u48 u49 u50 u51 u52 u53 u54 u55 u56 u57 u58 u59 u60 u61 u62 u63 u64 u65 u66 u67 u68 u69 u70 u71 u72 u73 u74 u75 u76 u77 u78 u79 u80 u81 u82 u83 u84 u85 u86 u87 u88 u89 u90 u91 u92 u93 u94 u95 u96 u97 u98 u99 u100 u101 u102 u103 u104 u105 u106 u107 u108 u109 u110 u111 u112 u113 u114 u115 u116 u117 u118 u119 u120 u121 u122 u123 u124 u125 u126 u127 u128 u129 u130 u131 u132 u133 u134 u135 u136 u137 u138 u139 u140 u141 u142 u143 u144 u145 u146 u147 u148 u149 u150 u151 u152 u153 u154 u155 u156 u157 u158 u159 u160 u161 u162 u163 u164 u165 u166 u167 u168 u169 u170 u171 u172 u173 : Value} {Q : Exit → Go.Act → World → Prop} {g12 g14 g20 g22 : Nat} {pv : Int} {ok is ok2 : Bool} {XP XN : List Value} {w : World}
    (hQ : ∀ c a d v w, Q (.panic c) (a.put d v) w → Q (.panic c) a w)
    (hS : ∀ W, Below w.heap.size w W → (W.rangeAt g12 0 XP ∧ W.rangeAt g14 0 XP ∧ W.rangeAt g20 0 XN ∧ W.rangeAt g22 0 XN))
    (hP : PXs XP) (hN1 : (Tryz.prog.info? 56).map (·.size) = some XN.length) (hN2 : (Tryz.prog.info? 101).map (·.size) = some XN.length)
    (heqP : ∀ w, (Op.equalIn 10000 43 (.agg XP.toArray) (.agg XP.toArray)).run Tryz.prog w = .ok true w)
    (heqN : ∀ w, (Op.equalIn 10000 101 (.agg XN.toArray) (.agg XN.toArray)).run Tryz.prog w = .ok true w)
    (hbs : ∀ W, (Instr.buildSlice 50 1 #[(0, .agg XN.toArray)]).run Tryz.prog W = .ok (.slice (some ⟨W.heap.size, 0, none⟩) 1 1) (W.alloc (.cells XN.toArray 56)))
    (hOf : ∀ W a, Blk W a 56 XN.toArray → Calls Tryz.prog 46 #[.slice (some ⟨a, 0, none⟩) 1 1] W fun e w' => ∃ b cap, e = .returned (.slice (some ⟨b, 0, none⟩) 1 cap) ∧ w'.rangeAt b 0 XN ∧ b < w'.heap.size ∧ Below W.heap.size W w')
    (hk : ∀ W' a1 b1 cap1, Below w.heap.size w W' → Q .normal { tmps := #[u0, u1, u2, u3, u4, u5, u6, u7, u8, u9, u10, u11, .pointer (some ⟨g12, 0, none⟩), .bool ok, .pointer (some ⟨g14, 0, none⟩), .bool ok, .int .i64 pv, .bool is, .int .i64 pv, .bool is, .pointer (some ⟨g20, 0, none⟩), .bool ok2, .pointer (some ⟨g22, 0, none⟩), .bool ok2, u24, u25, u26, u27, u28, u29, u30, u31, u32, u33, u34, u35, u36, u37, u38, u39, u40, u41, u42, u43, u44, u45, u46, u47, u48, u49, u50, u51, u52, u53, u54, u55, u56, u57, u58, u59, u60, u61, u62, u63, u64, u65, u66, u67, u68, u69, u70, u71, u72, u73, u74, u75, u76, u77, u78, u79, u80, u81, u82, u83, u84, u85, u86, u87, u88, u89, u90, u91, u92, u93, u94, u95, u96, u97, u98, u99, u100, u101, u102, u103, u104, u105, u106, u107, u108, u109, u110, u111, u112, u113, u114, u115, u116, u117, u118, u119, u120, u121, u122, u123, u124, u125, u126, u127, u128, u129, u130, u131, u132, u133, u134, u135, u136, u137, u138, u139, u140, u141, .agg XP.toArray, .agg XP.toArray, .bool false, .bool false, .bool ok, .bool ok, .bool false, .bool false, .bool false, .int .i64 pv, .int .i64 pv, .bool false, .bool false, .bool false, .bool is, .bool is, .bool false, .bool false, .bool false, .bool ok2, .bool ok2, .bool false, .bool false, .bool false, .agg XN.toArray, .slice (some ⟨a1, 0, none⟩) 1 1, .slice (some ⟨b1, 0, none⟩) 1 cap1, .pointer (some ⟨b1, 0, none⟩), .agg XN.toArray, .agg XN.toArray, .bool false, .bool false], defers := [] } W') :
    (Code.region 16 (List.toArray ({ dst := some 142, op := Op.load 43 (Operand.tmp 12), type := 43, pos := "law.go:112", after := #[], guard := none } :: { dst := some 143, op := Op.load 43 (Operand.tmp 14), type := 43, pos := "law.go:112", after := #[], guard := none } :: { dst := some 144, op := Op.binOp BinOp.neq 43 (Operand.tmp 142) (Operand.tmp 143) 43, type := 4, pos := "law.go:112", after := #[{ on := 0, ground := Ground.data }, { on := 1, ground := Ground.data }], guard := none } :: { dst := some 145, op := Op.move (Operand.tmp 144), type := 4, pos := "law.go:112", after := #[{ on := 2, ground := Ground.data }], guard := none } :: { dst := some 146, op := Op.move (Operand.tmp 13), type := 4, pos := "law.go:112", after := #[{ on := 3, ground := Ground.guard }], guard := some (3, false) } :: { dst := some 147, op := Op.move (Operand.tmp 15), type := 4, pos := "law.go:112", after := #[{ on := 3, ground := Ground.guard }], guard := some (3, false) } :: { dst := some 148, op := Op.binOp BinOp.neq 4 (Operand.tmp 146) (Operand.tmp 147) 4, type := 4, pos := "law.go:112", after := #[{ on := 4, ground := Ground.data }, { on := 5, ground := Ground.data }, { on := 3, ground := Ground.guard }], guard := some (3, false) } :: { dst := some 149, op := Op.pick (Operand.tmp 145) (Operand.const (Value.bool true)) (Operand.tmp 148), type := 4, pos := "law.go:112", after := #[{ on := 3, ground := Ground.data }, { on := 6, ground := Ground.data }], guard := none } :: { dst := some 150, op := Op.move (Operand.tmp 149), type := 4, pos := "law.go:112", after := #[{ on := 7, ground := Ground.data }, { on := 3, ground := Ground.chain }], guard := none } :: { dst := some 151, op := Op.move (Operand.tmp 16), type := 31, pos := "law.go:112", after := #[{ on := 8, ground := Ground.guard }], guard := some (8, false) } :: { dst := some 152, op := Op.move (Operand.tmp 18), type := 31, pos := "law.go:112", after := #[{ on := 8, ground := Ground.guard }], guard := some (8, false) } :: { dst := some 153, op := Op.binOp BinOp.neq 31 (Operand.tmp 151) (Operand.tmp 152) 31, type := 4, pos := "law.go:112", after := #[{ on := 9, ground := Ground.data }, { on := 10, ground := Ground.data }, { on := 8, ground := Ground.guard }], guard := some (8, false) } :: { dst := some 154, op := Op.pick (Operand.tmp 150) (Operand.const (Value.bool true)) (Operand.tmp 153), type := 4, pos := "law.go:112", after := #[{ on := 8, ground := Ground.data }, { on := 11, ground := Ground.data }], guard := none } :: { dst := some 155, op := Op.move (Operand.tmp 154), type := 4, pos := "law.go:112", after := #[{ on := 12, ground := Ground.data }, { on := 8, ground := Ground.chain }], guard := none } :: { dst := some 156, op := Op.move (Operand.tmp 17), type := 4, pos := "law.go:112", after := #[{ on := 13, ground := Ground.guard }], guard := some (13, false) } :: { dst := some 157, op := Op.move (Operand.tmp 19), type := 4, pos := "law.go:112", after := #[{ on := 13, ground := Ground.guard }], guard := some (13, false) } :: { dst := some 158, op := Op.binOp BinOp.neq 4 (Operand.tmp 156) (Operand.tmp 157) 4, type := 4, pos := "law.go:112", after := #[{ on := 14, ground := Ground.data }, { on := 15, ground := Ground.data }, { on := 13, ground := Ground.guard }], guard := some (13, false) } :: { dst := some 159, op := Op.pick (Operand.tmp 155) (Operand.const (Value.bool true)) (Operand.tmp 158), type := 4, pos := "law.go:112", after := #[{ on := 13, ground := Ground.data }, { on := 16, ground := Ground.data }], guard := none } :: { dst := some 160, op := Op.move (Operand.tmp 159), type := 4, pos := "law.go:112", after := #[{ on := 17, ground := Ground.data }, { on := 13, ground := Ground.chain }], guard := none } :: { dst := some 161, op := Op.move (Operand.tmp 21), type := 4, pos := "law.go:112", after := #[{ on := 18, ground := Ground.guard }], guard := some (18, false) } :: { dst := some 162, op := Op.move (Operand.tmp 23), type := 4, pos := "law.go:112", after := #[{ on := 18, ground := Ground.guard }], guard := some (18, false) } :: { dst := some 163, op := Op.binOp BinOp.neq 4 (Operand.tmp 161) (Operand.tmp 162) 4, type := 4, pos := "law.go:112", after := #[{ on := 19, ground := Ground.data }, { on := 20, ground := Ground.data }, { on := 18, ground := Ground.guard }], guard := some (18, false) } :: { dst := some 164, op := Op.pick (Operand.tmp 160) (Operand.const (Value.bool true)) (Operand.tmp 163), type := 4, pos := "law.go:112", after := #[{ on := 18, ground := Ground.data }, { on := 21, ground := Ground.data }], guard := none } :: { dst := some 165, op := Op.move (Operand.tmp 164), type := 4, pos := "law.go:112", after := #[{ on := 22, ground := Ground.data }, { on := 18, ground := Ground.chain }], guard := none } :: { dst := some 166, op := Op.load 56 (Operand.tmp 20), type := 56, pos := "law.go:112", after := #[{ on := 23, ground := Ground.guard }], guard := some (23, false) } :: { dst := some 167, op := Op.buildSlice 50 1 #[(0, Operand.tmp 166)], type := 50, pos := "law.go:112", after := #[{ on := 24, ground := Ground.data }, { on := 23, ground := Ground.guard }], guard := some (23, false) } :: { dst := some 168, op := Op.call { callee := Callee.value (Operand.func 46), args := #[Operand.tmp 167], argTypes := #[50] }, type := 104, pos := "law.go:112", after := #[{ on := 25, ground := Ground.data }, { on := 23, ground := Ground.chain }, { on := 23, ground := Ground.guard }], guard := some (23, false) } :: { dst := some 169, op := Op.indexAddr 104 (Operand.tmp 168) (Operand.const (Value.int IntKind.i64 0)), type := 0, pos := "law.go:112", after := #[{ on := 26, ground := Ground.data }, { on := 23, ground := Ground.guard }], guard := some (23, false) } :: { dst := some 170, op := Op.load 101 (Operand.tmp 169), type := 101, pos := "law.go:112", after := #[{ on := 27, ground := Ground.data }, { on := 23, ground := Ground.guard }], guard := some (23, false) } :: { dst := some 171, op := Op.load 101 (Operand.tmp 22), type := 101, pos := "law.go:112", after := #[{ on := 23, ground := Ground.guard }], guard := some (23, false) } :: { dst := some 172, op := Op.binOp BinOp.neq 101 (Operand.tmp 170) (Operand.tmp 171) 101, type := 4, pos := "law.go:112", after := #[{ on := 28, ground := Ground.data }, { on := 29, ground := Ground.data }, { on := 23, ground := Ground.guard }], guard := some (23, false) } :: { dst := some 173, op := Op.pick (Operand.tmp 165) (Operand.const (Value.bool true)) (Operand.tmp 172), type := 4, pos := "law.go:112", after := #[{ on := 23, ground := Ground.data }, { on := 30, ground := Ground.data }], guard := none } :: List.nil)) true).wp Tryz.prog Q { tmps := #[u0, u1, u2, u3, u4, u5, u6, u7, u8, u9, u10, u11, .pointer (some ⟨g12, 0, none⟩), .bool ok, .pointer (some ⟨g14, 0, none⟩), .bool ok, .int .i64 pv, .bool is, .int .i64 pv, .bool is, .pointer (some ⟨g20, 0, none⟩), .bool ok2, .pointer (some ⟨g22, 0, none⟩), .bool ok2, u24, u25, u26, u27, u28, u29, u30, u31, u32, u33, u34, u35, u36, u37, u38, u39, u40, u41, u42, u43, u44, u45, u46, u47, u48, u49, u50, u51, u52, u53, u54, u55, u56, u57, u58, u59, u60, u61, u62, u63, u64, u65, u66, u67, u68, u69, u70, u71, u72, u73, u74, u75, u76, u77, u78, u79, u80, u81, u82, u83, u84, u85, u86, u87, u88, u89, u90, u91, u92, u93, u94, u95, u96, u97, u98, u99, u100, u101, u102, u103, u104, u105, u106, u107, u108, u109, u110, u111, u112, u113, u114, u115, u116, u117, u118, u119, u120, u121, u122, u123, u124, u125, u126, u127, u128, u129, u130, u131, u132, u133, u134, u135, u136, u137, u138, u139, u140, u141, u142, u143, u144, u145, u146, u147, u148, u149, u150, u151, u152, u153, u154, u155, u156, u157, u158, u159, u160, u161, u162, u163, u164, u165, u166, u167, u168, u169, u170, u171, u172, u173], defers := [] } w := by
  have HK := Lib.hid hk
  have HS := Lib.hid hS
  have HP := Lib.hid hP
  have HN1 := Lib.hid hN1
  have HN2 := Lib.hid hN2
  have HBs := Lib.hid hbs
  have HOf := Lib.hid hOf
  have HEP := Lib.hid heqP
  have HEN := Lib.hid heqN
  clear hk hS hP hN1 hN2 hbs hOf heqP heqN
  refine wp_region_held_drew (S := fun w' => w'.rangeAt g12 0 XP ∧ w'.rangeAt g14 0 XP ∧ w'.rangeAt g20 0 XN ∧ w'.rangeAt g22 0 XN) (by kernel_rfl) (HS.out _ (drew_below _)) (fun hHeld => ?_)
  refine wpAnyH_take (i := 0) (v := _) rfl (by kernel_rfl) (by kernel_rfl) (by kernel_rfl) (fun c a w h => hQ c a _ _ w h) (yieldsIf_load_mid (by rfl) _ _ rfl _ _ rfl _ _ (fun _ h => h.1) Tryz.underlying43 rfl HP.out.2.1) hHeld ?_
  simp only [Act.put, List.getElem_toArray, List.getElem_cons_zero, List.setIfInBounds_toArray, List.set_cons_zero, List.set_cons_succ]
  refine wpAnyH_take (i := 1) (v := _) rfl (by kernel_rfl) (by kernel_rfl) (by kernel_rfl) (fun c a w h => hQ c a _ _ w h) (yieldsIf_load_mid (by rfl) _ _ rfl _ _ rfl _ _ (fun _ h => h.2.1) Tryz.underlying43 rfl HP.out.2.1) hHeld ?_
  simp only [Act.put, List.getElem_toArray, List.getElem_cons_zero, List.getElem_cons_succ, List.setIfInBounds_toArray, List.set_cons_zero, List.set_cons_succ]
  have heqP := HEP.out
  refine tk 2 hHeld ?_ (hQ := fun c a w h => hQ c a _ _ w h)
  clear heqP
  refine tk 3 hHeld ?_ (hQ := fun c a w h => hQ c a _ _ w h)
  refine tk 4 hHeld ?_ (hQ := fun c a w h => hQ c a _ _ w h)
  refine tk 5 hHeld ?_ (hQ := fun c a w h => hQ c a _ _ w h)
  refine tk 6 hHeld ?_ (hQ := fun c a w h => hQ c a _ _ w h)
  refine tk 7 hHeld ?_ (hQ := fun c a w h => hQ c a _ _ w h)
  refine tk 8 hHeld ?_ (hQ := fun c a w h => hQ c a _ _ w h)
  refine tk 9 hHeld ?_ (hQ := fun c a w h => hQ c a _ _ w h)
  refine tk 10 hHeld ?_ (hQ := fun c a w h => hQ c a _ _ w h)
  refine tk 11 hHeld ?_ (hQ := fun c a w h => hQ c a _ _ w h)
  refine tk 12 hHeld ?_ (hQ := fun c a w h => hQ c a _ _ w h)
  refine tk 13 hHeld ?_ (hQ := fun c a w h => hQ c a _ _ w h)
  refine tk 14 hHeld ?_ (hQ := fun c a w h => hQ c a _ _ w h)
  refine tk 15 hHeld ?_ (hQ := fun c a w h => hQ c a _ _ w h)
  refine tk 16 hHeld ?_ (hQ := fun c a w h => hQ c a _ _ w h)
  refine tk 17 hHeld ?_ (hQ := fun c a w h => hQ c a _ _ w h)
  refine tk 18 hHeld ?_ (hQ := fun c a w h => hQ c a _ _ w h)
  refine tk 19 hHeld ?_ (hQ := fun c a w h => hQ c a _ _ w h)
  refine tk 20 hHeld ?_ (hQ := fun c a w h => hQ c a _ _ w h)
  refine tk 21 hHeld ?_ (hQ := fun c a w h => hQ c a _ _ w h)
  refine tk 22 hHeld ?_ (hQ := fun c a w h => hQ c a _ _ w h)
  refine tk 23 hHeld ?_ (hQ := fun c a w h => hQ c a _ _ w h)
  refine wpAnyH_take (i := 24) (v := _) rfl (by kernel_rfl) (by kernel_rfl) (by kernel_rfl) (fun c a w h => hQ c a _ _ w h) (yieldsIf_load_mid (by rfl) _ _ rfl _ _ rfl _ _ (fun _ h => h.2.2.1) Tryz.underlying56 rfl HN1.out) hHeld ?_
  simp only [Act.put, List.getElem_toArray, List.getElem_cons_zero, List.getElem_cons_succ, List.setIfInBounds_toArray, List.set_cons_zero, List.set_cons_succ]
  refine wpAnyH_take (i := 29) (v := _) rfl (by kernel_rfl) (by kernel_rfl) (by kernel_rfl) (fun c a w h => hQ c a _ _ w h) (yieldsIf_load_mid (by rfl) _ _ rfl _ _ rfl _ _ (fun _ h => h.2.2.2) Tryz.underlying101 rfl HN2.out) hHeld ?_
  simp only [Act.put, List.getElem_toArray, List.getElem_cons_zero, List.getElem_cons_succ, List.setIfInBounds_toArray, List.set_cons_zero, List.set_cons_succ]
  have HBd := Lib.hid (drew_below w)
  refine rd 25 (fun K hK => ?_)
  rw [if_pos (by rfl)]
  refine wp_bs1 50 56 (.tmp 166) rfl XN rfl HBs.out ?_
  refine hK.out _ _ (HS.out _ (balloc HBd.out _)) (fun hHeld => ?_)
  clear hK K
  simp only [Act.put, List.setIfInBounds_toArray]
  refine rd 26 (fun K hK => ?_)
  go_simp
  go_at_call 46
  refine (HOf.out _ w.drew.heap.size (Blk.new w.drew _ _)).mono ?_
  rintro e x1 ⟨b1, cap1, rfl, r1, l1, hb1⟩
  have HB1 := Lib.hid (bthen (balloc HBd.out (.cells XN.toArray 56)) hb1)
  have HR1 := Lib.hid r1
  clear r1 hb1
  go_wp2_with fail
  refine hK.out _ _ (HS.out _ HB1.out) (fun hHeld => ?_)
  clear hK K
  refine tk 27 hHeld ?_ (hQ := fun c a w h => hQ c a _ _ w h)
  refine rd 28 (fun K hK => ?_)
  rw [if_pos (by rfl)]
  refine wp_load_mid 101 _ rfl b1 0 rfl XN _ HR1.out Tryz.underlying101 rfl HN2.out ?_
  refine hK.out _ _ hHeld (fun hHeld => ?_)
  clear hK K
  simp only [Act.put, List.setIfInBounds_toArray]
  have heqN := HEN.out
  refine tk 30 hHeld ?_ (hQ := fun c a w h => hQ c a _ _ w h)
  clear heqN
  refine tk 31 hHeld ?_ (hQ := fun c a w h => hQ c a _ _ w h)
  refine wpAnyH_done (by kernel_rfl) ?_ _
  clear hHeld
  exact HK.out _ _ b1 cap1 HB1.out
end Go.Proofs.YtkondkajpmafkaaGreat
