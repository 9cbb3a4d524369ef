/-
  SceneTold of layer 11: who hangs on whom; a comparison for any frame; what holds between two acts.
-/
import Derived.Test.YtkondkajpmafkaaGreatMT49
namespace Go.Proofs.YtkondkajpmafkaaGreat
open Go.RowKit

def eqN (a b : Nd) : Bool := (a.id == b.id) && (a.par == b.par) && eq12 a.pl b.pl && (a.hid == b.hid)
theorem eqN_self (a : Nd) : eqN a a = true := by unfold eqN; simp [eq12_self]
set_option maxHeartbeats 4000000 in
set_option maxRecDepth 10000 in
theorem eqNdF (s t : Nd) (w : World) : (Op.equalIn 10000 56 (.agg (cNd s).toArray) (.agg (cNd t).toArray)).run Tryz.prog w = .ok (eqN s t) w := by
  have hM : ∀ n w, (Op.equalIn (n + 1 + 1) 37 (.agg #[.int .i64 (s.pl 0), .int .i64 (s.pl 1), .int .i64 (s.pl 2), .int .i64 (s.pl 3), .int .i64 (s.pl 4), .int .i64 (s.pl 5), .int .i64 (s.pl 6), .int .i64 (s.pl 7), .int .i64 (s.pl 8), .int .i64 (s.pl 9), .int .i64 (s.pl 10), .int .i64 (s.pl 11)]) (.agg #[.int .i64 (t.pl 0), .int .i64 (t.pl 1), .int .i64 (t.pl 2), .int .i64 (t.pl 3), .int .i64 (t.pl 4), .int .i64 (t.pl 5), .int .i64 (t.pl 6), .int .i64 (t.pl 7), .int .i64 (t.pl 8), .int .i64 (t.pl 9), .int .i64 (t.pl 10), .int .i64 (t.pl 11)])).run Tryz.prog w = .ok (eq12 s.pl t.pl) w := fun n w => eqMatB n _ _ _ _ _ _ _ _ _ _ _ _ _ _ _ _ _ _ _ _ _ _ _ _ w
  have a1 := Tryz.isAgg37
  have z1 := Tryz.sizeOf37
  have u5 := Tryz.underlying4
  have a5 := Tryz.isAgg4
  have z5 := Tryz.sizeOf4
  have u6 := Tryz.underlying31
  have a6 := Tryz.isAgg31
  have z6 := Tryz.sizeOf31
  obtain ⟨eM, hE⟩ : ∃ e, e = eq12 s.pl t.pl := ⟨_, rfl⟩
  unfold eqN
  rw [← hE] at hM ⊢
  clear hE
  unfold cNd
  rw [show (10000 : Nat) = 9997 + 1 + 1 + 1 from rfl, Op.equalIn]
  simp only [Sem.run_bind, run_underlying Tryz.underlying56, Result.andThen_ok]
  go_simp
  by_cases e0 : s.id = t.id
  · by_cases e1 : s.par = t.par
    · cases eM
      · simp [e0, e1]
      · by_cases e2 : s.hid = t.hid
        · simp [e0, e1, e2]
        · simp [e0, e1, e2]
    · simp [e0, e1]
  · simp [e0]
set_option maxHeartbeats 8000000 in
set_option maxRecDepth 100000 in
theorem told_r39 {u0 u1 u2 u3 u4 u5 u6 u7 u10 u11 u12 u13 u14 u15 u16 u17 u18 u19 u20 u21 u23 u25 u28 u29 u30 u31 u32 u33 u34 u35 u36 u37 u38 u39 u40 u41 u42 u43 u44 u45 u46 u47 u48 u49 u50 u51 u52 u53 u54 u55 u56 u57 u58 u59 u60 u61 u62 u63 u64 u65 u66 u67 u68 u69 u70 u71 u72 u73 u74 u75 u76 u77 u78 u79 u80 u81 u82 u83 u84 u85 u86 u87 u88 u89 u90 u91 u92 u93 u94 u95 u96 u97 u98 u99 u100 u101 u102 u103 u104 u105 u106 u107 u108 u109 u110 u111 u112 u113 u114 u115 u116 u117 u118 u119 u120 u121 u122 u123 u124 u125 u126 u127 u128 u129 u130 u131 u132 u133 u134 u135 u136 u137 u138 u139 u140 u141 u142 u143 u144 u145 u146 u147 u148 u149 u150 u151 u152 u153 u154 u155 u156 u157 u158 u159 u160 u161 u162 u163 u164 u165 u166 u167 u168 u169 u170 u171 u172 u173 u174 u175 u176 u177 u178 u179 u180 u181 u182 u183 u184 u185 u186 u187 u188 u189 u190 u191 u192 u193 u194 u195 u196 u197 u198 u199 u200 u201 u202 : Value} {Q : Exit → Go.Act → World → Prop} {g22 g24 b8 o8 c8 b9 o9 c9 n8 q : Nat} {sm en ep : Bool} {XA XB XN XP : List Value} {w : World}
    (hQ : ∀ c a d v w, Q (.panic c) (a.put d v) w → Q (.panic c) a w)
    (q0 : (0 : Int) ≤ (q : Int)) (q1 : (q : Int) < (n8 : Int))
    (hS : w.drew.rangeAt b8 (o8 + q * 15) XA ∧ w.drew.rangeAt g22 0 XN ∧ w.drew.rangeAt b9 (o9 + q * 24) XB ∧ w.drew.rangeAt g24 0 XP)
    (hA : (Tryz.prog.info? 56).map (·.size) = some XA.length) (hN : (Tryz.prog.info? 56).map (·.size) = some XN.length)
    (hB : (Tryz.prog.info? 43).map (·.size) = some XB.length) (hP : (Tryz.prog.info? 43).map (·.size) = some XP.length)
    (heN : ∀ w, (Op.equalIn 10000 56 (.agg XA.toArray) (.agg XN.toArray)).run Tryz.prog w = .ok en w)
    (heP : ∀ w, (Op.equalIn 10000 43 (.agg XB.toArray) (.agg XP.toArray)).run Tryz.prog w = .ok ep w)
    (hk : ∀ W' (z0 z1 z2 z3 z4 z5 z6 z7 z8 z9 z10 z11 z12 z13 z14 z15 z16 : Value), W' = w.drew → Q .normal { tmps := #[u0, u1, u2, u3, u4, u5, u6, u7, .slice (some ⟨b8, o8, none⟩) n8 c8, .slice (some ⟨b9, o9, none⟩) n8 c9, u10, u11, u12, u13, u14, u15, u16, u17, u18, u19, u20, u21, .pointer (some ⟨g22, 0, none⟩), u23, .pointer (some ⟨g24, 0, none⟩), u25, .bool (sm || (en && ep)), .int .i64 (q : Int), u28, u29, u30, u31, u32, u33, u34, u35, u36, u37, u38, u39, u40, u41, u42, u43, u44, u45, u46, u47, u48, u49, u50, u51, u52, u53, u54, u55, u56, u57, u58, u59, u60, u61, u62, u63, u64, u65, u66, u67, u68, u69, u70, u71, u72, u73, u74, u75, u76, u77, u78, u79, u80, u81, u82, u83, u84, u85, u86, u87, u88, u89, u90, u91, u92, u93, u94, u95, u96, u97, u98, u99, u100, u101, u102, u103, u104, u105, u106, u107, u108, u109, u110, u111, u112, u113, u114, u115, u116, u117, u118, u119, u120, u121, u122, u123, u124, u125, u126, u127, u128, u129, u130, u131, u132, u133, u134, u135, u136, u137, u138, z0, z1, z2, z3, z4, z5, z6, z7, z8, z9, z10, z11, z12, z13, z14, z15, z16, u156, u157, u158, u159, u160, u161, u162, u163, u164, u165, u166, u167, u168, u169, u170, u171, u172, u173, u174, u175, u176, u177, u178, u179, u180, u181, u182, u183, u184, u185, u186, u187, u188, u189, u190, u191, u192, u193, u194, u195, u196, u197, u198, u199, u200, u201, u202], defers := [] } W') :
    (Code.region 39 #[{ dst := some 139, op := Op.move (Operand.tmp 26), type := 4, pos := "law.go:205", after := #[], guard := none }, { dst := some 140, op := Op.move (Operand.tmp 139), type := 4, pos := "law.go:205", after := #[{ on := 0, ground := Ground.data }], guard := none }, { dst := some 141, op := Op.move (Operand.tmp 8), type := 50, pos := "law.go:205", after := #[{ on := 1, ground := Ground.guard }], guard := some (1, false) }, { dst := some 142, op := Op.move (Operand.tmp 27), type := 3, pos := "law.go:205", after := #[{ on := 1, ground := Ground.guard }], guard := some (1, false) }, { dst := some 143, op := Op.indexAddr 50 (Operand.tmp 141) (Operand.tmp 142), type := 0, pos := "law.go:205", after := #[{ on := 2, ground := Ground.data }, { on := 3, ground := Ground.data }, { on := 1, ground := Ground.guard }], guard := some (1, false) }, { dst := some 144, op := Op.load 56 (Operand.tmp 143), type := 56, pos := "law.go:205", after := #[{ on := 4, ground := Ground.data }, { on := 1, ground := Ground.guard }], guard := some (1, false) }, { dst := some 145, op := Op.load 56 (Operand.tmp 22), type := 56, pos := "law.go:205", after := #[{ on := 1, ground := Ground.guard }], guard := some (1, false) }, { dst := some 146, op := Op.binOp BinOp.eql 56 (Operand.tmp 144) (Operand.tmp 145) 56, type := 4, pos := "law.go:205", after := #[{ on := 5, ground := Ground.data }, { on := 6, ground := Ground.data }, { on := 1, ground := Ground.guard }], guard := some (1, false) }, { dst := some 147, op := Op.move (Operand.tmp 146), type := 4, pos := "law.go:205", after := #[{ on := 7, ground := Ground.data }, { on := 1, ground := Ground.chain }, { on := 1, ground := Ground.guard }], guard := some (1, false) }, { dst := some 148, op := Op.move (Operand.tmp 9), type := 51, pos := "law.go:205", after := #[{ on := 8, ground := Ground.guard }], guard := some (8, true) }, { dst := some 149, op := Op.move (Operand.tmp 27), type := 3, pos := "law.go:205", after := #[{ on := 8, ground := Ground.guard }], guard := some (8, true) }, { dst := some 150, op := Op.indexAddr 51 (Operand.tmp 148) (Operand.tmp 149), type := 0, pos := "law.go:205", after := #[{ on := 9, ground := Ground.data }, { on := 10, ground := Ground.data }, { on := 8, ground := Ground.guard }], guard := some (8, true) }, { dst := some 151, op := Op.load 43 (Operand.tmp 150), type := 43, pos := "law.go:205", after := #[{ on := 11, ground := Ground.data }, { on := 8, ground := Ground.guard }], guard := some (8, true) }, { dst := some 152, op := Op.load 43 (Operand.tmp 24), type := 43, pos := "law.go:205", after := #[{ on := 8, ground := Ground.guard }], guard := some (8, true) }, { dst := some 153, op := Op.binOp BinOp.eql 43 (Operand.tmp 151) (Operand.tmp 152) 43, type := 4, pos := "law.go:205", after := #[{ on := 12, ground := Ground.data }, { on := 13, ground := Ground.data }, { on := 8, ground := Ground.guard }], guard := some (8, true) }, { dst := some 154, op := Op.pick (Operand.tmp 147) (Operand.tmp 153) (Operand.const (Value.bool false)), type := 4, pos := "law.go:205", after := #[{ on := 8, ground := Ground.data }, { on := 14, ground := Ground.data }, { on := 1, ground := Ground.guard }], guard := some (1, false) }, { dst := some 155, op := Op.pick (Operand.tmp 140) (Operand.const (Value.bool true)) (Operand.tmp 154), type := 4, pos := "law.go:205", after := #[{ on := 1, ground := Ground.data }, { on := 15, ground := Ground.data }], guard := none }, { dst := some 26, op := Op.assign (Operand.tmp 155), type := 4, pos := "law.go:205", after := #[{ on := 16, ground := Ground.data }, { on := 8, ground := Ground.chain }, { on := 0, ground := Ground.phase }, { on := 1, ground := Ground.phase }, { on := 2, ground := Ground.phase }, { on := 3, ground := Ground.phase }, { on := 4, ground := Ground.phase }, { on := 5, ground := Ground.phase }, { on := 6, ground := Ground.phase }, { on := 7, ground := Ground.phase }, { on := 8, ground := Ground.phase }, { on := 9, ground := Ground.phase }, { on := 10, ground := Ground.phase }, { on := 11, ground := Ground.phase }, { on := 12, ground := Ground.phase }, { on := 13, ground := Ground.phase }, { on := 14, ground := Ground.phase }, { on := 15, ground := Ground.phase }, { on := 16, ground := Ground.phase }], guard := none }] true).wp Tryz.prog Q { tmps := #[u0, u1, u2, u3, u4, u5, u6, u7, .slice (some ⟨b8, o8, none⟩) n8 c8, .slice (some ⟨b9, o9, none⟩) n8 c9, u10, u11, u12, u13, u14, u15, u16, u17, u18, u19, u20, u21, .pointer (some ⟨g22, 0, none⟩), u23, .pointer (some ⟨g24, 0, none⟩), u25, .bool sm, .int .i64 (q : Int), u28, u29, u30, u31, u32, u33, u34, u35, u36, u37, u38, u39, u40, u41, u42, u43, u44, u45, u46, u47, u48, u49, u50, u51, u52, u53, u54, u55, u56, u57, u58, u59, u60, u61, u62, u63, u64, u65, u66, u67, u68, u69, u70, u71, u72, u73, u74, u75, u76, u77, u78, u79, u80, u81, u82, u83, u84, u85, u86, u87, u88, u89, u90, u91, u92, u93, u94, u95, u96, u97, u98, u99, u100, u101, u102, u103, u104, u105, u106, u107, u108, u109, u110, u111, u112, u113, u114, u115, u116, u117, u118, u119, u120, u121, u122, u123, u124, u125, u126, u127, u128, u129, u130, u131, u132, u133, u134, u135, u136, u137, u138, u139, u140, u141, u142, u143, u144, u145, u146, u147, u148, u149, u150, u151, u152, u153, u154, u155, u156, u157, u158, u159, u160, u161, u162, u163, u164, u165, u166, u167, u168, u169, u170, u171, u172, u173, u174, u175, u176, u177, u178, u179, u180, u181, u182, u183, u184, u185, u186, u187, u188, u189, u190, u191, u192, u193, u194, u195, u196, u197, u198, u199, u200, u201, u202], defers := [] } w := by
  have HK := Lib.hid hk
  have HA := Lib.hid hA
  have HN := Lib.hid hN
  have HB := Lib.hid hB
  have HP := Lib.hid hP
  have HEN := Lib.hid heN
  have HEP := Lib.hid heP
  clear hk hA hN hB hP heN heP
  refine wp_region_held_drew (S := fun w' => w'.rangeAt b8 (o8 + q * 15) XA ∧ w'.rangeAt g22 0 XN ∧ w'.rangeAt b9 (o9 + q * 24) XB ∧ w'.rangeAt g24 0 XP) (by kernel_rfl) (hS) (fun hHeld => ?_)
  clear hS
  cases sm with
  | true =>
    refine tk 0 hHeld ?_ (hQ := fun c a w h => hQ c a _ _ w h)
    refine tk 1 hHeld ?_ (hQ := fun c a w h => hQ c a _ _ w h)
    refine wpAnyH_take (i := 2) (v := undef) rfl (by kernel_rfl) (by kernel_rfl) (by kernel_rfl) (fun c a w h => hQ c a _ _ w h) (Or.inr ⟨by rfl, rfl⟩) hHeld ?_
    simp only [Act.put, List.getElem_toArray, List.getElem_cons_zero, List.getElem_cons_succ, List.setIfInBounds_toArray, List.set_cons_zero, List.set_cons_succ]
    refine wpAnyH_take (i := 3) (v := undef) rfl (by kernel_rfl) (by kernel_rfl) (by kernel_rfl) (fun c a w h => hQ c a _ _ w h) (Or.inr ⟨by rfl, rfl⟩) hHeld ?_
    simp only [Act.put, List.getElem_toArray, List.getElem_cons_zero, List.getElem_cons_succ, List.setIfInBounds_toArray, List.set_cons_zero, List.set_cons_succ]
    refine wpAnyH_take (i := 4) (v := undef) rfl (by kernel_rfl) (by kernel_rfl) (by kernel_rfl) (fun c a w h => hQ c a _ _ w h) (Or.inr ⟨by rfl, rfl⟩) hHeld ?_
    simp only [Act.put, List.getElem_toArray, List.getElem_cons_zero, List.getElem_cons_succ, List.setIfInBounds_toArray, List.set_cons_zero, List.set_cons_succ]
    refine wpAnyH_take (i := 5) (v := undef) rfl (by kernel_rfl) (by kernel_rfl) (by kernel_rfl) (fun c a w h => hQ c a _ _ w h) (Or.inr ⟨by rfl, rfl⟩) hHeld ?_
    simp only [Act.put, List.getElem_toArray, List.getElem_cons_zero, List.getElem_cons_succ, List.setIfInBounds_toArray, List.set_cons_zero, List.set_cons_succ]
    refine wpAnyH_take (i := 6) (v := undef) rfl (by kernel_rfl) (by kernel_rfl) (by kernel_rfl) (fun c a w h => hQ c a _ _ w h) (Or.inr ⟨by rfl, rfl⟩) hHeld ?_
    simp only [Act.put, List.getElem_toArray, List.getElem_cons_zero, List.getElem_cons_succ, List.setIfInBounds_toArray, List.set_cons_zero, List.set_cons_succ]
    refine wpAnyH_take (i := 7) (v := undef) rfl (by kernel_rfl) (by kernel_rfl) (by kernel_rfl) (fun c a w h => hQ c a _ _ w h) (Or.inr ⟨by rfl, rfl⟩) hHeld ?_
    simp only [Act.put, List.getElem_toArray, List.getElem_cons_zero, List.getElem_cons_succ, List.setIfInBounds_toArray, List.set_cons_zero, List.set_cons_succ]
    refine wpAnyH_take (i := 8) (v := undef) rfl (by kernel_rfl) (by kernel_rfl) (by kernel_rfl) (fun c a w h => hQ c a _ _ w h) (Or.inr ⟨by rfl, rfl⟩) hHeld ?_
    simp only [Act.put, List.getElem_toArray, List.getElem_cons_zero, List.getElem_cons_succ, List.setIfInBounds_toArray, List.set_cons_zero, List.set_cons_succ]
    refine wpAnyH_take (i := 9) (v := undef) rfl (by kernel_rfl) (by kernel_rfl) (by kernel_rfl) (fun c a w h => hQ c a _ _ w h) (Or.inr ⟨by rfl, rfl⟩) hHeld ?_
    simp only [Act.put, List.getElem_toArray, List.getElem_cons_zero, List.getElem_cons_succ, List.setIfInBounds_toArray, List.set_cons_zero, List.set_cons_succ]
    refine wpAnyH_take (i := 10) (v := undef) rfl (by kernel_rfl) (by kernel_rfl) (by kernel_rfl) (fun c a w h => hQ c a _ _ w h) (Or.inr ⟨by rfl, rfl⟩) hHeld ?_
    simp only [Act.put, List.getElem_toArray, List.getElem_cons_zero, List.getElem_cons_succ, List.setIfInBounds_toArray, List.set_cons_zero, List.set_cons_succ]
    refine wpAnyH_take (i := 11) (v := undef) rfl (by kernel_rfl) (by kernel_rfl) (by kernel_rfl) (fun c a w h => hQ c a _ _ w h) (Or.inr ⟨by rfl, rfl⟩) hHeld ?_
    simp only [Act.put, List.getElem_toArray, List.getElem_cons_zero, List.getElem_cons_succ, List.setIfInBounds_toArray, List.set_cons_zero, List.set_cons_succ]
    refine wpAnyH_take (i := 12) (v := undef) rfl (by kernel_rfl) (by kernel_rfl) (by kernel_rfl) (fun c a w h => hQ c a _ _ w h) (Or.inr ⟨by rfl, rfl⟩) hHeld ?_
    simp only [Act.put, List.getElem_toArray, List.getElem_cons_zero, List.getElem_cons_succ, List.setIfInBounds_toArray, List.set_cons_zero, List.set_cons_succ]
    refine wpAnyH_take (i := 13) (v := undef) rfl (by kernel_rfl) (by kernel_rfl) (by kernel_rfl) (fun c a w h => hQ c a _ _ w h) (Or.inr ⟨by rfl, rfl⟩) hHeld ?_
    simp only [Act.put, List.getElem_toArray, List.getElem_cons_zero, List.getElem_cons_succ, List.setIfInBounds_toArray, List.set_cons_zero, List.set_cons_succ]
    refine wpAnyH_take (i := 14) (v := undef) rfl (by kernel_rfl) (by kernel_rfl) (by kernel_rfl) (fun c a w h => hQ c a _ _ w h) (Or.inr ⟨by rfl, rfl⟩) hHeld ?_
    simp only [Act.put, List.getElem_toArray, List.getElem_cons_zero, List.getElem_cons_succ, List.setIfInBounds_toArray, List.set_cons_zero, List.set_cons_succ]
    refine wpAnyH_take (i := 15) (v := undef) rfl (by kernel_rfl) (by kernel_rfl) (by kernel_rfl) (fun c a w h => hQ c a _ _ w h) (Or.inr ⟨by rfl, rfl⟩) hHeld ?_
    simp only [Act.put, List.getElem_toArray, List.getElem_cons_zero, List.getElem_cons_succ, List.setIfInBounds_toArray, List.set_cons_zero, List.set_cons_succ]
    refine tk 16 hHeld ?_ (hQ := fun c a w h => hQ c a _ _ w h)
    refine tk 17 hHeld ?_ (hQ := fun c a w h => hQ c a _ _ w h)
    refine wpAnyH_done (by kernel_rfl) ?_ _
    clear hHeld
    exact HK.out _ _ _ _ _ _ _ _ _ _ _ _ _ _ _ _ _ _ rfl
  | false =>
    refine tk 0 hHeld ?_ (hQ := fun c a w h => hQ c a _ _ w h)
    refine tk 1 hHeld ?_ (hQ := fun c a w h => hQ c a _ _ w h)
    refine tk 2 hHeld ?_ (hQ := fun c a w h => hQ c a _ _ w h)
    refine tk 3 hHeld ?_ (hQ := fun c a w h => hQ c a _ _ w h)
    refine tk 4 hHeld ?_ (hQ := fun c a w h => hQ c a _ _ w h)
    refine wpAnyH_take (i := 5) (v := _) rfl (by kernel_rfl) (by kernel_rfl) (by kernel_rfl) (fun c a w h => hQ c a _ _ w h) (yieldsIf_load_mid (by rfl) _ _ rfl _ _ rfl _ _ (fun _ h => h.1) Tryz.underlying56 rfl HA.out) hHeld ?_
    simp only [Act.put, List.getElem_toArray, List.getElem_cons_zero, List.getElem_cons_succ, List.setIfInBounds_toArray, List.set_cons_zero, List.set_cons_succ]
    refine wpAnyH_take (i := 6) (v := _) rfl (by kernel_rfl) (by kernel_rfl) (by kernel_rfl) (fun c a w h => hQ c a _ _ w h) (yieldsIf_load_mid (by rfl) _ _ rfl _ _ rfl _ _ (fun _ h => h.2.1) Tryz.underlying56 rfl HN.out) hHeld ?_
    simp only [Act.put, List.getElem_toArray, List.getElem_cons_zero, List.getElem_cons_succ, List.setIfInBounds_toArray, List.set_cons_zero, List.set_cons_succ]
    have heqN := HEN.out
    refine tk 7 hHeld ?_ (hQ := fun c a w h => hQ c a _ _ w h)
    clear heqN
    cases en with
    | false =>
      refine tk 8 hHeld ?_ (hQ := fun c a w h => hQ c a _ _ w h)
      refine wpAnyH_take (i := 9) (v := undef) rfl (by kernel_rfl) (by kernel_rfl) (by kernel_rfl) (fun c a w h => hQ c a _ _ w h) (Or.inr ⟨by rfl, rfl⟩) hHeld ?_
      simp only [Act.put, List.getElem_toArray, List.getElem_cons_zero, List.getElem_cons_succ, List.setIfInBounds_toArray, List.set_cons_zero, List.set_cons_succ]
      refine wpAnyH_take (i := 10) (v := undef) rfl (by kernel_rfl) (by kernel_rfl) (by kernel_rfl) (fun c a w h => hQ c a _ _ w h) (Or.inr ⟨by rfl, rfl⟩) hHeld ?_
      simp only [Act.put, List.getElem_toArray, List.getElem_cons_zero, List.getElem_cons_succ, List.setIfInBounds_toArray, List.set_cons_zero, List.set_cons_succ]
      refine wpAnyH_take (i := 11) (v := undef) rfl (by kernel_rfl) (by kernel_rfl) (by kernel_rfl) (fun c a w h => hQ c a _ _ w h) (Or.inr ⟨by rfl, rfl⟩) hHeld ?_
      simp only [Act.put, List.getElem_toArray, List.getElem_cons_zero, List.getElem_cons_succ, List.setIfInBounds_toArray, List.set_cons_zero, List.set_cons_succ]
      refine wpAnyH_take (i := 12) (v := undef) rfl (by kernel_rfl) (by kernel_rfl) (by kernel_rfl) (fun c a w h => hQ c a _ _ w h) (Or.inr ⟨by rfl, rfl⟩) hHeld ?_
      simp only [Act.put, List.getElem_toArray, List.getElem_cons_zero, List.getElem_cons_succ, List.setIfInBounds_toArray, List.set_cons_zero, List.set_cons_succ]
      refine wpAnyH_take (i := 13) (v := undef) rfl (by kernel_rfl) (by kernel_rfl) (by kernel_rfl) (fun c a w h => hQ c a _ _ w h) (Or.inr ⟨by rfl, rfl⟩) hHeld ?_
      simp only [Act.put, List.getElem_toArray, List.getElem_cons_zero, List.getElem_cons_succ, List.setIfInBounds_toArray, List.set_cons_zero, List.set_cons_succ]
      refine wpAnyH_take (i := 14) (v := undef) rfl (by kernel_rfl) (by kernel_rfl) (by kernel_rfl) (fun c a w h => hQ c a _ _ w h) (Or.inr ⟨by rfl, rfl⟩) hHeld ?_
      simp only [Act.put, List.getElem_toArray, List.getElem_cons_zero, List.getElem_cons_succ, List.setIfInBounds_toArray, List.set_cons_zero, List.set_cons_succ]
      refine tk 15 hHeld ?_ (hQ := fun c a w h => hQ c a _ _ w h)
      refine tk 16 hHeld ?_ (hQ := fun c a w h => hQ c a _ _ w h)
      refine tk 17 hHeld ?_ (hQ := fun c a w h => hQ c a _ _ w h)
      refine wpAnyH_done (by kernel_rfl) ?_ _
      clear hHeld
      exact HK.out _ _ _ _ _ _ _ _ _ _ _ _ _ _ _ _ _ _ rfl
    | true =>
      refine tk 8 hHeld ?_ (hQ := fun c a w h => hQ c a _ _ w h)
      refine tk 9 hHeld ?_ (hQ := fun c a w h => hQ c a _ _ w h)
      refine tk 10 hHeld ?_ (hQ := fun c a w h => hQ c a _ _ w h)
      refine tk 11 hHeld ?_ (hQ := fun c a w h => hQ c a _ _ w h)
      refine wpAnyH_take (i := 12) (v := _) rfl (by kernel_rfl) (by kernel_rfl) (by kernel_rfl) (fun c a w h => hQ c a _ _ w h) (yieldsIf_load_mid (by rfl) _ _ rfl _ _ rfl _ _ (fun _ h => h.2.2.1) Tryz.underlying43 rfl HB.out) hHeld ?_
      simp only [Act.put, List.getElem_toArray, List.getElem_cons_zero, List.getElem_cons_succ, List.setIfInBounds_toArray, List.set_cons_zero, List.set_cons_succ]
      refine wpAnyH_take (i := 13) (v := _) rfl (by kernel_rfl) (by kernel_rfl) (by kernel_rfl) (fun c a w h => hQ c a _ _ w h) (yieldsIf_load_mid (by rfl) _ _ rfl _ _ rfl _ _ (fun _ h => h.2.2.2) Tryz.underlying43 rfl HP.out) hHeld ?_
      simp only [Act.put, List.getElem_toArray, List.getElem_cons_zero, List.getElem_cons_succ, List.setIfInBounds_toArray, List.set_cons_zero, List.set_cons_succ]
      have heqP := HEP.out
      refine tk 14 hHeld ?_ (hQ := fun c a w h => hQ c a _ _ w h)
      clear heqP
      refine tk 15 hHeld ?_ (hQ := fun c a w h => hQ c a _ _ w h)
      refine tk 16 hHeld ?_ (hQ := fun c a w h => hQ c a _ _ w h)
      refine tk 17 hHeld ?_ (hQ := fun c a w h => hQ c a _ _ w h)
      refine wpAnyH_done (by kernel_rfl) ?_ _
      clear hHeld
      exact HK.out _ _ _ _ _ _ _ _ _ _ _ _ _ _ _ _ _ _ rfl
section
variable {XB : World → Nat → (Nat → Prop) → Sc → Prop}
set_option maxHeartbeats 4000000 in
set_option maxRecDepth 100000 in
theorem hangs11_any (hX : XC XB) {w : World} {g : Nat} {F : Nat → Prop} {X : Sc} (h : XB w g F X) (hW : WX X) (hB : BSc X 900) (a : Option Addr) (n cap : Nat) (row : Row w a n (alS X.S)) (id : Int) (hid : id ∈ alS X.S) :
    Calls Tryz.prog 21 #[.pointer (some ⟨g, 0, none⟩), .slice a n cap, .int .i64 id] w fun e w' => e = .returned (.bool true) ∧ Below w.heap.size w w' := by
  have hrg : ∀ y ∈ alS X.S, Rg y := fun y hy => by
    have h2 := live_iff.1 ((mem_all hW.ws).1 hy)
    unfold Rg
    omega
  have hup : ∀ y ∈ abv X.L id, y ∈ alS X.S := fun y hy => (mem_all hW.ws).2 (hW.up _ id (Nat.le_refl _) y hy)
  have HRow := Lib.hid row
  have hbig := row.2.1
  have hmn : (abv X.L id).length ≤ n := by rw [← row.1]; exact hW.abv_all id
  have HPa : Hid (∀ u z, Below w.heap.size w u → (z = id ∨ z ∈ abv X.L id) → Calls Tryz.prog 43 #[.pointer (some ⟨g, 0, none⟩), .int .i64 z] u fun e w' => e = .returned (.tuple #[.int .i64 (parV (parO X.L z)), .bool (parO X.L z).isSome]) ∧ Below u.heap.size u w') := Lib.hid (fun u z q hz => hX.parent u g F X z hW hB (hX.kb.keep h q) (hz.elim (fun e => by rw [e]; exact hrg _ hid) (fun m => hrg _ (hup _ m))))
  have HHas : Hid (∀ u y, Below w.heap.size w u → y ∈ abv X.L id → Calls Tryz.prog 20 #[.slice a n cap, .int .i64 y] u fun e w' => e = .returned (.bool true) ∧ u = w') := Lib.hid (fun u y q hy => by
    have := plhas_any a n cap (alS X.S) y u (row_keep HRow.out q)
    rwa [decide_eq_true (hup y hy)] at this)
  have HWay : Hid (∀ z y, (z = id ∨ z ∈ abv X.L id) → parO X.L z = some y → y ∈ abv X.L id ∧ y ≠ id ∧ (abv X.L y).length + 1 = (abv X.L z).length) := Lib.hid (fun z y hz hy => by
    have e := abv_some hW.wf hy
    have hm : y ∈ abv X.L id := by
      have h1 : y ∈ abv X.L z := by rw [e]; exact List.mem_cons_self
      rcases hz with rfl | m
      · exact h1
      · exact abv_trans hW.wf h1 m
    refine ⟨hm, fun c => ?_, by rw [e]; rfl⟩
    rw [c] at hm
    exact no_ring hW.wf id hm)
  obtain ⟨m, hm⟩ : ∃ m, m = (abv X.L id).length := ⟨_, rfl⟩
  rw [← hm] at hmn
  have HM := Lib.hid hm
  clear h hW hB hid hrg hup row hX hm
  go_enter Tryz.func21, Tryz.ntmps21
  go_wp2_with fail
  refine (HPa.out w id (Below.refl _ _) (Or.inl rfl)).mono ?_
  rintro e w1 ⟨rfl, b1⟩
  have HB1 := Lib.hid b1
  clear b1
  go_wp2
  go_loopw [7, 8, 9, 10] (fun v7 v8 v9 _ wr => ∃ (k : Nat) (z : Int), v9 = .int .i64 k ∧ v7 = .int .i64 (parV (parO X.L z)) ∧ v8 = .bool (parO X.L z).isSome ∧ (z = id ∨ z ∈ abv X.L id) ∧ k + (abv X.L z).length ≤ m ∧ Below w.heap.size w wr) (fun _ _ v9 _ _ => m - (intOf v9).toNat)
  case atStart => exact ⟨0, id, rfl, rfl, rfl, Or.inl rfl, by rw [HM.out]; omega, HB1.out⟩
  case round =>
    clear HB1
    obtain ⟨k, z, rfl, rfl, rfl, hz, hk, hb⟩ := hrel
    have HZ := Lib.hid hz
    have HB := Lib.hid hb
    clear hz hb
    have hkn : (k : Int) ≤ (n : Int) := by omega
    cases hp : parO X.L z with
    | none =>
      clear hp
      go_wp2
      go_ret
      exact ⟨rfl, HB.out⟩
    | some y =>
      obtain ⟨hy, hne, hl⟩ := HWay.out z y HZ.out hp
      have HY := Lib.hid hy
      have e1 : parV (some y) = y := rfl
      rw [e1]
      have hyb : (y == id) = false := by simpa using hne
      clear hp hy hne
      go_wp2_with fail
      refine (HHas.out _ y HB.out HY.out).mono ?_
      rintro e w2 ⟨rfl, rfl⟩
      go_wp2_with fail
      refine (HPa.out _ y HB.out (Or.inr HY.out)).mono ?_
      rintro e w3 ⟨rfl, b3⟩
      have HB3 := Lib.hid (bthen HB.out b3)
      clear b3
      go_wp2
      go_roundw
      case rel => exact ⟨k + 1, y, by go_num, rfl, rfl, Or.inr HY.out, by omega, HB3.out⟩
      case measure => simp [intOf] <;> omega
/-- what holds between two acts: the scene, who was there at a tick, as which node, with which parts -/
structure R11 (XB : World → Nat → (Nat → Prop) → Sc → Prop) (w : World) (g m : Nat) (v8 v9 : Value) (since : Int) (wr : World) (F : Nat → Prop) (X I0 : Sc) : Prop where
  was : OwnX 15 cNd 56 wr w.heap.size v8 ((alS I0.S).map (nodeX I0))
  had : OwnX 24 pl 43 wr w.heap.size v9 ((alS I0.S).map (getP I0.S))
  ow : ∀ b, v8.ownBlock = some b → ¬ F b
  oh : ∀ b, v9.ownBlock = some b → ¬ F b
  sb : XB wr g F X
  wx : WX I0
  told : ToldX (fun x P => inS I0.S x P) (parO I0.L) since X
  bd : BSc X m
  bel : Below w.heap.size w wr
  foot : ∀ b, F b → w.heap.size ≤ b
theorem R11.act {w wr w' : World} {g m m' : Nat} {v8 v9 : Value} {since : Int} {F : Nat → Prop} {X I0 : Sc} {x : A11} (h : R11 XB w g m v8 v9 since wr F X I0) (hch : ChB XB wr w' g F (doX X x)) (hm : m + 2 ≤ m') : ∃ F', R11 XB w g m' v8 v9 since w' F' (doX X x) I0 := by
  obtain ⟨F', h1, h2, h3⟩ := hch
  exact ⟨F', h.was.same (fun b hb => h2.2.2.2.2 b (h.was.lt b hb).2 (h.ow b hb)), h.had.same (fun b hb => h2.2.2.2.2 b (h.had.lt b hb).2 (h.oh b hb)), fun b hb hf => (h3 b hf).elim (fun c => h.ow b hb c) (fun c => by have := (h.was.lt b hb).2; omega), fun b hb hf => (h3 b hf).elim (fun c => h.oh b hb c) (fun c => by have := (h.had.lt b hb).2; omega), h1, h.wx, h.told.does x, (h.bd.does h.told.wx x).mono hm, Fr.below h2 h.bel h.foot h.bel.size, fun b hf => (h3 b hf).elim (fun c => h.foot b c) (fun c => Nat.le_trans h.bel.size c)⟩
theorem al_zero (r : Nat) : alS (Sc0 r).S = [] := by
  unfold alS allL
  rw [List.map_eq_nil_iff, List.filter_eq_nil_iff]
  intro i _ h
  cases h
theorem R11.start {w wr : World} {g r : Nat} {F : Nat → Prop} (hr : r ≤ 256) (sb : XB wr g F (Sc0 r)) (hF : ∀ b, F b → w.heap.size ≤ b) (hb : Below w.heap.size w wr) : R11 XB w g 0 (.slice none 0 0) (.slice none 0 0) 0 wr F (Sc0 r) (Sc0 r) := by
  refine ⟨by rw [al_zero]; exact OwnX.nil _ _ _ _ _, by rw [al_zero]; exact OwnX.nil _ _ _ _ _, fun b hb => (by cases hb), fun b hb => (by cases hb), sb, WX.zero hr, ?_, BSc.zero hr, hb, hF⟩
  have h := ToldX.first (r := r) hr
  have e : (fun x P => inS (Sc0 r).S x P) = (fun (_ : Int) (_ : PT) => False) := by
    funext x P
    refine propext ⟨fun ⟨i, _, m⟩ => (by cases m), fun c => c.elim⟩
  rw [e]
  exact h
end
end Go.Proofs.YtkondkajpmafkaaGreat
