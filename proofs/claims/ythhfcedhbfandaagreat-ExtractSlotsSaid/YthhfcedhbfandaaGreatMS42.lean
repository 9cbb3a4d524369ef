/-
  2 texts in one file, each with its own heading.
-/
import Derived.Test.YthhfcedhbfandaaGreatMS41
/-
  The landed flow: has, parent, Steps, Nodes, New, mark.
-/
namespace Go.Proofs.YthhfcedhbfandaaGreat
open Go.RowKit

structure BX (X : List Value) : Prop where
  len : X.length = 13
  sizea : (Tryz.prog.info? 215).map (·.size) = some X.toArray.size
  onea : X.toArray.all (·.oneCell') = true
structure RX (X : List Value) : Prop where
  len : X.length = 14
  sizea : (Tryz.prog.info? 299).map (·.size) = some X.toArray.size
  onea : X.toArray.all (·.oneCell') = true
theorem cBd_one (p : BD) : ∀ u ∈ cBd p, u.oneCell' = true := fun u hu => by
  rw [cBd_eq] at hu
  rcases List.mem_append.1 hu with h | h
  · exact lM_one _ u h
  · rw [List.mem_singleton.1 h]; rfl
theorem cSd_one (p : RD) : ∀ u ∈ cSd p, u.oneCell' = true := fun u hu => by
  rw [cSd_eq] at hu
  rcases List.mem_append.1 hu with h | h
  · exact lM_one _ u h
  · rcases List.mem_cons.1 h with h | h
    · rw [h]; rfl
    · rw [List.mem_singleton.1 h]; rfl
theorem bx_any (p : BD) : BX (cBd p) := ⟨rfl, by kernel_rfl, all_oneCell_toArray (cBd_one p)⟩
theorem rx_any (p : RD) : RX (cSd p) := ⟨rfl, by kernel_rfl, all_oneCell_toArray (cSd_one p)⟩
def parM (T : FT) (x : Int) : Int := (parO T x).getD (-1)
section
variable {w : World} {p : Wp} {x : Int}
set_option maxHeartbeats 1000000 in
set_option maxRecDepth 100000 in
theorem lfhas_any (h : LW w p) (hx : Rg x) : Calls Tryz.prog 119 #[.pointer (some ⟨p.g, 0, none⟩), .int .i64 x] w fun e w' => e = .returned (.bool (p.N x).isSome) ∧ Below w.heap.size w w' := by
  obtain ⟨c0, c1, c2, c3, c4, hg⟩ := h.cells
  have hl : (Instr.lookup 197 (.map (some p.gn)) (.int .i64 x) true).run Tryz.prog w = .ok (.tuple #[.agg (cBd ((p.N x).getD zB)).toArray, .bool (p.N x).isSome]) w := h.nod.look hx
  have HX := Lib.hid (bx_any ((p.N x).getD zB))
  obtain ⟨X, hX⟩ : ∃ X, X = cBd ((p.N x).getD zB) := ⟨_, rfl⟩
  obtain ⟨b, hb⟩ : ∃ b, b = (p.N x).isSome := ⟨_, rfl⟩
  obtain ⟨g, hge⟩ : ∃ g, g = p.g := ⟨_, rfl⟩
  obtain ⟨gn, hne⟩ : ∃ gn, gn = p.gn := ⟨_, rfl⟩
  rw [← hX] at hl HX
  rw [← hb] at hl ⊢
  rw [← hne] at hl c1
  rw [← hge] at c1 hg ⊢
  have HT : Hid ((w.alloc (.cells (cBd zB).toArray 215)).there w.heap.size 0 X.toArray.size) := Lib.hid (blk_there (Blk.new w _ _) (by rw [List.size_toArray, HX.out.len]; exact Nat.le_refl 13))
  clear h hX hb hge hne c0 c2 c3 c4
  go_enter Tryz.func119, Tryz.ntmps119
  go_wp2_with (refine wpList_store_mid rfl 215 (.tmp 5) (.tmp 14) rfl w.heap.size 0 X.toArray rfl rfl HT.out HX.out.sizea HX.out.onea ?_)
  refine fin (fun W => Below w.heap.size w W) (below_setCells _ (alloc_below _ _) (Nat.le_refl _)) ?_
  rintro W hbw
  have HB := Lib.hid hbw
  clear hbw
  go_wp2
  go_ret
  exact ⟨rfl, HB.out⟩
set_option maxHeartbeats 1000000 in
set_option maxRecDepth 100000 in
theorem lfparent_any (h : LW w p) (hx : Rg x) : Calls Tryz.prog 191 #[.pointer (some ⟨p.g, 0, none⟩), .int .i64 x] w fun e w' => e = .returned (.int .i64 (parM p.T x)) ∧ w = w' := by
  obtain ⟨c0, c1, c2, c3, c4, hg⟩ := h.cells
  have HP : Hid (Calls Tryz.prog 251 #[.pointer (some ⟨p.gf, 0, none⟩), .int .i64 x] w fun e w' => e = .returned (.tuple #[.int .i64 (parV (parO p.T x)), .bool (parO p.T x).isSome]) ∧ w = w') := Lib.hid (by
    obtain ⟨gp, gc, bl, cp, h1, _⟩ := h.fo
    exact lparent_any h1 hx)
  have hM : parM p.T x = (parO p.T x).getD (-1) := rfl
  obtain ⟨o, ho⟩ : ∃ o, o = parO p.T x := ⟨_, rfl⟩
  obtain ⟨g, hge⟩ : ∃ g, g = p.g := ⟨_, rfl⟩
  obtain ⟨gf, hfe⟩ : ∃ gf, gf = p.gf := ⟨_, rfl⟩
  rw [← ho] at HP hM
  rw [← hfe] at HP c0
  rw [← hge] at c0 hg ⊢
  rw [hM]
  clear h ho hge hfe hM c1 c2 c3 c4 hx
  go_enter Tryz.func191, Tryz.ntmps191
  go_wp2_with fail
  refine HP.out.mono ?_
  rintro e w1 ⟨rfl, rfl⟩
  cases o with
  | none =>
    go_wp2
    go_ret
    exact ⟨rfl, rfl⟩
  | some y =>
    go_wp2
    go_ret
    exact ⟨rfl, rfl⟩
set_option maxHeartbeats 1000000 in
set_option maxRecDepth 100000 in
theorem lfnodes_any (h : LW w p) (K : List Int) (hK : K.Pairwise (· < ·)) (hm : ∀ z, z ∈ K ↔ Rg z ∧ (p.N z).isSome = true) : Calls Tryz.prog 132 #[.pointer (some ⟨p.g, 0, none⟩)] w fun e w' => ∃ v, e = .returned v ∧ OwnD w' w.heap.size v K.length K ∧ Below w.heap.size w w' := by
  obtain ⟨c0, c1, c2, c3, c4, hg⟩ := h.cells
  have HKs := Lib.hid (keysY9 (some p.gn) w)
  have HSo := Lib.hid (sortedY9 h.nod K hK hm)
  clear h hK hm
  go_enter Tryz.func132, Tryz.ntmps132
  go_wp2_with fail
  refine HKs.out.mono ?_
  rintro e w0 ⟨rfl, rfl⟩
  go_wp2_with fail
  refine HSo.out.mono ?_
  rintro e w1 ⟨v, rfl, hrow, hb1⟩
  have HE := Lib.hid (And.intro hrow hb1)
  clear hrow hb1 HKs HSo
  go_wp2
  go_ret
  exact ⟨v, rfl, HE.out⟩
end
def mkS (S : Int → Option RD) (xs : List Int) (x : Int) : Option RD := if x ∈ xs then none else S x
def mkM (M : Int → Option Unit) (xs : List Int) (x : Int) : Option Unit := if x ∈ xs then some () else M x
theorem mkS_step {S : Int → Option RD} {xs : List Int} {j : Nat} {z : Int} (h : xs[j]? = some z) : mkS S (xs.take (j + 1)) = upm (mkS S (xs.take j)) z none := by
  funext y
  unfold mkS upm
  rw [List.take_add_one, h]
  by_cases c : y = z
  · rw [if_pos c, if_pos (by rw [c]; simp)]
  · rw [if_neg c]
    show _ = if y ∈ xs.take j then none else S y
    by_cases d : y ∈ xs.take j
    · rw [if_pos d, if_pos (List.mem_append_left _ d)]
    · rw [if_neg d, if_neg (fun k => (List.mem_append.1 k).elim d (fun k => c (by simpa using k)))]
theorem mkM_step {M : Int → Option Unit} {xs : List Int} {j : Nat} {z : Int} (h : xs[j]? = some z) : mkM M (xs.take (j + 1)) = upm (mkM M (xs.take j)) z (some ()) := by
  funext y
  unfold mkM upm
  rw [List.take_add_one, h]
  by_cases c : y = z
  · rw [if_pos c, if_pos (by rw [c]; simp)]
  · rw [if_neg c]
    show _ = if y ∈ xs.take j then some () else M y
    by_cases d : y ∈ xs.take j
    · rw [if_pos d, if_pos (List.mem_append_left _ d)]
    · rw [if_neg d, if_neg (fun k => (List.mem_append.1 k).elim d (fun k => c (by simpa using k)))]
def mkP (p : Wp) (xs : List Int) : Wp := { p with S := mkS p.S xs, M := mkM p.M xs }
theorem mkP_nil (p : Wp) : mkP p [] = p := by
  unfold mkP
  have h1 : mkS p.S [] = p.S := by funext x; unfold mkS; rw [if_neg (by simp)]
  have h2 : mkM p.M [] = p.M := by funext x; unfold mkM; rw [if_neg (by simp)]
  rw [h1, h2]
theorem LW.mark1 {w wr : World} {p : Wp} {xs : List Int} {j : Nat} {z : Int} (hch : ChL w wr p (mkP p (xs.take j))) (hz : xs[j]? = some z) (hx : Rg z) (K : List Int) (hK : ∀ y, (p.M y).isSome = true → y ∈ K) (hKl : K.length + xs.length ≤ 100000) :
    ∃ w1 w2, (∀ ty, (Builtin.delete_ #[198, 81] ty #[.map (some p.gs), .int .i64 z]).run Tryz.prog wr = .ok (.tuple #[]) w1) ∧ w1.cell? ⟨p.g, 3, none⟩ = some (.map (some p.gm)) ∧ p.g < w1.heap.size ∧ (Instr.mapUpdate 199 (.map (some p.gm)) (.int .i64 z) (.agg #[])).run Tryz.prog w1 = .ok () w2 ∧ ChL w w2 p (mkP p (xs.take (j + 1))) := by
  obtain ⟨w1, r1, m1, g1⟩ := hch.1.sts.del hx
  have k1 := hch.1.setS m1 g1
  obtain ⟨w2, r2, m2, g2⟩ := k1.1.mrk.put hx () (K ++ xs) (fun y hy => by
    unfold upm at hy
    by_cases c : y = z
    · rw [c]; exact List.mem_append_right _ (List.mem_of_getElem? hz)
    · rw [if_neg c] at hy
      have hy2 : (mkM p.M (xs.take j) y).isSome = true := hy
      unfold mkM at hy2
      by_cases d : y ∈ xs.take j
      · exact List.mem_append_right _ (List.mem_of_mem_take d)
      · rw [if_neg d] at hy2
        exact List.mem_append_left _ (hK y hy2)) (by rw [List.length_append]; exact hKl)
  have k2 := k1.1.setM m2 g2
  obtain ⟨_, _, _, c3, _, hg⟩ := k1.1.cells
  refine ⟨w1, w2, r1, c3, hg, r2, ?_⟩
  have := (hch.join k1).join k2
  unfold mkP
  rw [mkS_step hz, mkM_step hz]
  exact this
set_option maxHeartbeats 2000000 in
set_option maxRecDepth 100000 in
theorem lfmark_any {w : World} {p : Wp} (h : LW w p) {a : Option Addr} {n cap : Nat} {xs : List Int} (hn : n ≤ 20000) (hr : Row w a n xs) (ha : Aw (footL p) a n) (hx : Rgs xs) (K : List Int) (hK : ∀ y, (p.M y).isSome = true → y ∈ K) (hKl : K.length ≤ 70000) :
    Calls Tryz.prog 120 #[.pointer (some ⟨p.g, 0, none⟩), .slice a n cap] w fun e w' => e = .returned (.tuple #[]) ∧ ChL w w' p (mkP p xs) := by
  have HSt : Hid (ChL w w p (mkP p (xs.take 0))) := Lib.hid (by rw [List.take_zero, mkP_nil]; exact ChL.still h (Below.refl _ _))
  have HLen := Lib.hid hr.1
  have HRd : Hid (∀ (u : World) (j : Nat), ChL w u p (mkP p (xs.take j)) → Row u a n xs ∧ u.cell? ⟨p.g, 2, none⟩ = some (.map (some p.gs)) ∧ p.g < u.heap.size) := Lib.hid (fun u j q => ⟨row_frame hr ha q.2.1, q.1.cells.2.2.1, q.1.cells.2.2.2.2.2⟩)
  have HM : Hid (∀ (u : World) (j : Nat) (z : Int), xs[j]? = some z → ChL w u p (mkP p (xs.take j)) → ∃ w1 w2, (∀ ty, (Builtin.delete_ #[198, 81] ty #[.map (some p.gs), .int .i64 z]).run Tryz.prog u = .ok (.tuple #[]) w1) ∧ w1.cell? ⟨p.g, 3, none⟩ = some (.map (some p.gm)) ∧ p.g < w1.heap.size ∧ (Instr.mapUpdate 199 (.map (some p.gm)) (.int .i64 z) (.agg #[])).run Tryz.prog w1 = .ok () w2 ∧ ChL w w2 p (mkP p (xs.take (j + 1)))) := Lib.hid (fun u j z hz q => LW.mark1 q hz (hx z (List.mem_of_getElem? hz)) K hK (by rw [hr.1]; omega))
  have hbig := hr.2.1
  obtain ⟨g, hge⟩ : ∃ g, g = p.g := ⟨_, rfl⟩
  rw [← hge] at HRd HM ⊢
  clear h hr ha hx hK hKl hge
  go_enter Tryz.func120, Tryz.ntmps120
  go_wp2
  go_loopw [5, 8] (fun _ i wr => ∃ j : Nat, j ≤ n ∧ i = .int .i64 j ∧ ChL w wr p (mkP p (xs.take j))) (fun _ i _ => n - (ivl i).toNat)
  case atStart => exact ⟨0, by omega, rfl, HSt.out⟩
  case round =>
    clear HSt
    obtain ⟨j, hj, rfl, hch⟩ := hrel
    obtain ⟨hrw, c2, hg⟩ := HRd.out wr j hch
    have HCh := Lib.hid hch
    clear hch
    by_cases hlt : j < n
    · obtain ⟨b, off, z, rfl, hz, cz⟩ := row_at hrw hlt
      have hbl := World.block_lt_of_cell? _ _ cz
      obtain ⟨w1, w2, r1, c13, hg1, r2, hch2⟩ := HM.out wr j z hz HCh.out
      have HC2 := Lib.hid hch2
      have j0 : (0 : Int) ≤ (j : Int) := by omega
      have j1 : (j : Int) < (n : Int) := by omega
      clear hrw hz hch2 HCh
      go_wp2_with (at_builtin; refine wpList_del9 rfl (.tmp 15) (.tmp 16) 198 81 rfl _ _ rfl rfl (r1 _) ?_)
      go_roundw
      case rel => exact ⟨j + 1, by omega, by go_num, HC2.out⟩
      case measure => simp [ivl] <;> omega
    · obtain rfl : j = n := by omega
      have e0 : xs.take j = xs := List.take_of_length_le (by rw [HLen.out]; exact Nat.le_refl _)
      rw [e0] at HCh
      have j1 : ¬ (j : Int) < (j : Int) := by omega
      clear e0 hrw
      go_wp2
      go_end0
      exact ⟨rfl, HCh.out⟩
def rchV (nd : BD) (ho : Bool) (ou : Option RD) (x : Int) : Option RD × Int := if ho = false then (some (⟨x, nd.1, !nd.2⟩, 1), 0) else match ou with
  | none => (none, 0)
  | some u => if 16 ≤ u.2 then (none, 7) else if prodE2 u.1.wo nd.1 = 0 then (some (⟨x, prodM u.1.wo nd.1, u.1.sh && !nd.2⟩, u.2 + 1), 0) else (none, prodE2 u.1.wo nd.1)
def rchS (S : Int → Option RD) (x : Int) (o : Option RD) : Int → Option RD := match o with
  | some v => upm S x (some v)
  | none => S
theorem wpList_bs2 {ops : Array Oper} {rest : List Oper} {op : Oper} {a : Go.Act} {w : World} {Q : Exit → Go.Act → World → Prop} (hgd : op.guard = none) (t e : TypeId) (x y : Operand) (ho : op.op = .buildSlice t 2 #[(0, x), (1, y)]) (X Y Z : List Value) (hx : a.eval x = .agg X.toArray) (hy : a.eval y = .agg Y.toArray)
    (hrun : ∀ W, (Instr.buildSlice t 2 #[(0, .agg X.toArray), (1, .agg Y.toArray)]).run Tryz.prog W = .ok (.slice (some ⟨W.heap.size, 0, none⟩) 2 2) (W.alloc (.cells Z.toArray e)))
    (h : wpList Tryz.prog ops Q rest (a.put op.dst (.slice (some ⟨w.heap.size, 0, none⟩) 2 2)) (w.alloc (.cells Z.toArray e))) : wpList Tryz.prog ops Q (op :: rest) a w :=
  wpList_plain hgd fun K hK => by
    have h2 := hK _ _ h
    unfold Oper.wp execOp
    simp only [ho]
    simp [hx, hy, hrun]
    exact h2
theorem yieldsIf_bld {ops : Array Oper} {S : World → Prop} {op : Oper} {a : Go.Act} (hw : Region.wanted op (yielded ops a.tmps) = true) (t : TypeId) (x y : Operand) (ho : op.op = .build t #[(0, x), (1, y)]) (vx vy vr : Value) (hx : a.eval x = vx) (hy : a.eval y = vy)
    (hrun : ∀ W, (Instr.build t #[(0, vx), (1, vy)]).run Tryz.prog W = .ok vr W) : YieldsIf Tryz.prog ops S op vr a :=
  .inl ⟨hw, fun w _ => by
    unfold execOp
    simp only [ho]
    simp [hx, hy, hrun]⟩
def wS (p : Wp) (S' : Int → Option RD) : Wp := { p with S := S' }
theorem bs_mats (A B : Nat → Int) (W : World) : (Instr.buildSlice 326 2 #[(0, .agg (lM A).toArray), (1, .agg (lM B).toArray)]).run Tryz.prog W = .ok (.slice (some ⟨W.heap.size, 0, none⟩) 2 2) (W.alloc (.cells (lM A ++ lM B).toArray 46)) := by kernel_rfl
theorem bld_state (M : Nat → Int) (b : Bool) (W : World) : (Instr.build 228 #[(0, .agg (lM M).toArray), (1, .bool b)]).run Tryz.prog W = .ok (.agg (lM M ++ [Value.bool b]).toArray) W := by kernel_rfl
theorem bld_reached (M : Nat → Int) (b : Bool) (d : Int) (W : World) : (Instr.build 299 #[(0, .agg (lM M ++ [Value.bool b]).toArray), (1, .int .i64 d)]).run Tryz.prog W = .ok (.agg (lM M ++ [Value.bool b, Value.int .i64 d]).toArray) W := by kernel_rfl
theorem mulMs_two {A B : Nat → Int} (ha : okM A = true) (hb : okM B = true) : mulMs [A, B] = (if prodE2 A B = 0 then prodM A B else zeroM, prodE2 A B) := by
  have h : rightM [A, B] = true := by unfold rightM; simp [ha, hb]
  rw [mulMs_cons h]
  unfold foldM
  by_cases c : prodE2 A B = 0
  · rw [if_pos c, if_pos c, c]; rfl
  · rw [if_neg c, if_neg c]
set_option maxHeartbeats 4000000 in
theorem lmul_two (A B : Nat → Int) (ha : okM A = true) (hb : okM B = true) (w : World) (g : Nat) (k : Blk w g 46 (lM A ++ lM B).toArray) :
    Calls Tryz.prog 254 #[.slice (some ⟨g, 0, none⟩) 2 2] w fun e w' => e = .returned (.tuple #[.agg (lM (if prodE2 A B = 0 then prodM A B else zeroM)).toArray, .int .i64 (prodE2 A B)]) ∧ Below w.heap.size w w' := by
  have row := mrow2 (A := A) (B := B) k
  refine (mmul_any _ 2 2 [A, B] w row (by omega) (by omega)).mono ?_
  rintro e w' ⟨rfl, hb2⟩
  rw [mulMs_two ha hb]
  exact ⟨rfl, hb2⟩
section
variable {w : World} {p : Wp} {x : Int}
set_option maxHeartbeats 8000000 in
set_option maxRecDepth 100000 in
theorem lfreach_any (h : LW w p) (hx : Rg x) (nd : BD) (hN : p.N x = some nd) (hok : okM nd.1 = true) (hu : Rg (parM p.T x)) (hS : ∀ u, p.S (parM p.T x) = some u → okM u.1.wo = true ∧ u.2 ≤ 1000) (K : List Int) (hK : ∀ y, (p.S y).isSome = true → y ∈ K) (hKl : K.length ≤ 90000) :
    Calls Tryz.prog 200 #[.pointer (some ⟨p.g, 0, none⟩), .int .i64 x] w fun e w' => e = .returned (.int .i64 (rchV nd (p.N (parM p.T x)).isSome (p.S (parM p.T x)) x).2) ∧ ChL w w' p (wS p (rchS p.S x (rchV nd (p.N (parM p.T x)).isSome (p.S (parM p.T x)) x).1)) := by
  have HSt : Hid (∀ u, Below w.heap.size w u → ChL w u p p) := Lib.hid (fun u q => ChL.still h q)
  have HSu : Hid (∀ u, Below w.heap.size w u → u.cell? ⟨p.g, 1, none⟩ = some (.map (some p.gn)) ∧ (Instr.lookup 197 (.map (some p.gn)) (.int .i64 x) false).run Tryz.prog u = .ok (.agg (cBd nd).toArray) u) := Lib.hid (fun u q => ⟨(h.keep q).cells.2.1, by
    have := (h.keep q).nod.get hx
    rw [hN] at this
    exact this⟩)
  have HPa : Hid (∀ u, Below w.heap.size w u → Calls Tryz.prog 191 #[.pointer (some ⟨p.g, 0, none⟩), .int .i64 x] u fun e w' => e = .returned (.int .i64 (parM p.T x)) ∧ u = w') := Lib.hid (fun u q => lfparent_any (h.keep q) hx)
  have HHa : Hid (∀ u, Below w.heap.size w u → Calls Tryz.prog 119 #[.pointer (some ⟨p.g, 0, none⟩), .int .i64 (parM p.T x)] u fun e w' => e = .returned (.bool (p.N (parM p.T x)).isSome) ∧ Below u.heap.size u w') := Lib.hid (fun u q => lfhas_any (h.keep q) hu)
  have HLs : Hid (∀ u, Below w.heap.size w u → u.cell? ⟨p.g, 2, none⟩ = some (.map (some p.gs)) ∧ p.g < u.heap.size ∧ (Instr.lookup 198 (.map (some p.gs)) (.int .i64 (parM p.T x)) true).run Tryz.prog u = .ok (.tuple #[.agg (cSd ((p.S (parM p.T x)).getD zRf)).toArray, .bool (p.S (parM p.T x)).isSome]) u) := Lib.hid (fun u q => ⟨(h.keep q).cells.2.2.1, (h.keep q).cells.2.2.2.2.2, (h.keep q).sts.look hu⟩)
  have HPut : Hid (∀ u (v : RD), Below w.heap.size w u → ∃ w2, (Instr.mapUpdate 198 (.map (some p.gs)) (.int .i64 x) (.agg (cSd v).toArray)).run Tryz.prog u = .ok () w2 ∧ ChL w w2 p (wS p (upm p.S x (some v))) ∧ (∀ b, w.heap.size ≤ b → b < u.heap.size → w2.heap[b]? = u.heap[b]?) ∧ w2.cell? ⟨p.g, 2, none⟩ = some (.map (some p.gs))) := Lib.hid (fun u v q => by
    obtain ⟨w2, r2, m2, g2⟩ := (h.keep q).sts.put hx v (x :: K) (fun y hy => by
      unfold upm at hy
      by_cases c : y = x
      · rw [c]; exact List.mem_cons_self
      · rw [if_neg c] at hy
        exact List.mem_cons_of_mem _ (hK y hy)) (by rw [List.length_cons]; omega)
    exact ⟨w2, r2, (ChL.still h q).join ((h.keep q).setS m2 g2), fun b hb hl => g2.block b hl (fun e => by have := h.sts.lt; injection e with e; omega), ((h.keep q).setS m2 g2).1.cells.2.2.1⟩)
  have HBX := Lib.hid (bx_any nd)
  have HRB : Hid (∀ W gg, Blk W gg 215 (cBd nd).toArray → W.rangeAt gg 0 (lM nd.1) ∧ W.cell? ⟨gg, 12, none⟩ = some (.bool nd.2)) := Lib.hid (fun W gg k => ⟨blk_range k 0 12, k.cell 12⟩)
  obtain ⟨XB, hXB⟩ : ∃ XB, XB = cBd nd := ⟨_, rfl⟩
  obtain ⟨MB, hMB⟩ : ∃ MB, MB = lM nd.1 := ⟨_, rfl⟩
  obtain ⟨up, hup⟩ : ∃ up, up = parM p.T x := ⟨_, rfl⟩
  obtain ⟨ho, hho⟩ : ∃ ho, ho = (p.N up).isSome := ⟨_, rfl⟩
  obtain ⟨ou, hou⟩ : ∃ ou, ou = p.S up := ⟨_, rfl⟩
  have HMB := Lib.hid (mx_any nd.1)
  rw [← hXB] at HSu HBX HRB
  rw [← hMB] at HRB HMB
  rw [← hup] at HPa HHa HLs hS ⊢
  rw [← hho] at HHa ⊢
  rw [← hou] at HLs hS ⊢
  have HSo := Lib.hid hS
  have HOk := Lib.hid hok
  have HMe := Lib.hid hMB
  obtain ⟨g, hge⟩ : ∃ g, g = p.g := ⟨_, rfl⟩
  obtain ⟨gn, hne⟩ : ∃ gn, gn = p.gn := ⟨_, rfl⟩
  obtain ⟨gs, hse⟩ : ∃ gs, gs = p.gs := ⟨_, rfl⟩
  rw [← hge] at HSu HPa HHa HLs HPut ⊢
  rw [← hne] at HSu
  rw [← hse] at HLs HPut
  have CA := Lib.hid (HSu.out _ (below_drew9f w))
  have hal : Below w.heap.size w (w.drew.alloc (.cells (cBd zB).toArray 215)) := bthen (below_drew9f w) (alloc_below _ _)
  have CB := Lib.hid (HSu.out _ hal)
  have HTh : Hid ((w.drew.alloc (.cells (cBd zB).toArray 215)).there w.heap.size 0 XB.toArray.size) := Lib.hid (blk_there (Blk.new w.drew _ _) (by rw [List.size_toArray, HBX.out.len]; exact Nat.le_refl 13))
  have hbs : Below w.heap.size w ((w.drew.alloc (.cells (cBd zB).toArray 215)).setCells w.heap.size 0 XB) := below_setCells XB hal (Nat.le_refl _)
  have CC := Lib.hid (HSu.out _ hbs)
  have HPh : Hid (Blk ((w.drew.alloc (.cells (cBd zB).toArray 215)).setCells w.heap.size 0 XB) w.heap.size 215 XB.toArray ∧ Below w.heap.size w ((w.drew.alloc (.cells (cBd zB).toArray 215)).setCells w.heap.size 0 XB) ∧ w.heap.size ≤ w.heap.size) := Lib.hid ⟨blk_over (Blk.new w.drew _ _) (by rw [HBX.out.len]; rfl), hbs, Nat.le_refl _⟩
  have hg := (HLs.out _ (Below.refl _ _)).2.1
  clear h hN hok hu hS hK hKl hXB hMB hup hho hou hge hne hse hx hbs
  go_enter Tryz.func200, Tryz.ntmps200
  go_upto_region 1 with fail
  refine wp_join (fun gx f => { tmps := #[.pointer (some ⟨g, 0, none⟩), .int .i64 x, undef, undef, .int .i64 0, .pointer (some ⟨gx, 0, none⟩), .int .i64 up, undef, undef, undef, undef, f 11, f 12, f 13, f 14, f 15, f 16, f 17, f 18, f 19, undef, undef, undef, undef, undef, undef, undef, undef, undef, undef, undef, undef, undef, undef, undef, undef, undef, undef, undef, undef, undef, undef, undef, undef, undef, undef, undef, undef, undef, undef, undef, undef, undef, undef, undef, undef, undef, undef, undef, undef, undef, undef, undef, undef, undef, undef, undef, undef, undef, undef, undef, undef, undef, undef, undef, undef, undef, undef, undef, undef, undef, undef], defers := [] }) (fun gx W => Blk W gx 215 XB.toArray ∧ Below w.heap.size w W ∧ w.heap.size ≤ gx) ?_ ?_
  · refine wp_region_held_drew (S := fun w' => w'.cell? ⟨g, 1, none⟩ = some (.map (some gn)) ∧ (Instr.lookup 197 (.map (some gn)) (.int .i64 x) false).run Tryz.prog w' = .ok (.agg XB.toArray) w') (by kernel_rfl) (CA.out) (fun hHeld => ?_)
    refine wpAnyH_take (i := 0) (v := ?_) rfl (by kernel_rfl) (by kernel_rfl) (by kernel_rfl) (fun _ _ _ h => (by cases h.1)) (Or.inl ⟨by rfl, ?_⟩) hHeld ?_
    rotate_left
    · intro w hSw
      obtain ⟨s0, s1⟩ := hSw
      go_simp
      with_reducible rfl
    simp only [Act.put, List.getElem_toArray, List.getElem_cons_zero, List.setIfInBounds_toArray, List.set_cons_zero, List.set_cons_succ]
    refine wpAnyH_take (i := 1) (v := ?_) rfl (by kernel_rfl) (by kernel_rfl) (by kernel_rfl) (fun _ _ _ h => (by cases h.1)) (Or.inl ⟨by rfl, ?_⟩) hHeld ?_
    rotate_left
    · intro w hSw
      obtain ⟨s0, s1⟩ := hSw
      go_simp
      with_reducible rfl
    simp only [Act.put, List.getElem_toArray, List.getElem_cons_zero, List.getElem_cons_succ, List.setIfInBounds_toArray, List.set_cons_zero, List.set_cons_succ]
    refine wpAnyH_take (i := 2) (v := ?_) rfl (by kernel_rfl) (by kernel_rfl) (by kernel_rfl) (fun _ _ _ h => (by cases h.1)) (Or.inl ⟨by rfl, ?_⟩) hHeld ?_
    rotate_left
    · intro w hSw
      obtain ⟨s0, s1⟩ := hSw
      go_simp
      with_reducible rfl
    simp only [Act.put, List.getElem_toArray, List.getElem_cons_zero, List.getElem_cons_succ, List.setIfInBounds_toArray, List.set_cons_zero, List.set_cons_succ]
    refine wpAnyH_take (i := 3) (v := ?_) rfl (by kernel_rfl) (by kernel_rfl) (by kernel_rfl) (fun _ _ _ h => (by cases h.1)) (Or.inl ⟨by rfl, ?_⟩) hHeld ?_
    rotate_left
    · intro w hSw
      obtain ⟨s0, s1⟩ := hSw
      go_simp
      with_reducible rfl
    simp only [Act.put, List.getElem_toArray, List.getElem_cons_zero, List.getElem_cons_succ, List.setIfInBounds_toArray, List.set_cons_zero, List.set_cons_succ]
    refine wpAnyH_take (i := 4) (v := ?_) rfl (by kernel_rfl) (by kernel_rfl) (by kernel_rfl) (fun _ _ _ h => (by cases h.1)) (Or.inl ⟨by rfl, ?_⟩) hHeld ?_
    rotate_left
    · intro w hSw
      obtain ⟨s0, s1⟩ := hSw
      go_simp
      with_reducible rfl
    simp only [Act.put, List.getElem_toArray, List.getElem_cons_zero, List.getElem_cons_succ, List.setIfInBounds_toArray, List.set_cons_zero, List.set_cons_succ]
    refine wpAnyH_take (i := 5) (v := ?_) rfl (by kernel_rfl) (by kernel_rfl) (by kernel_rfl) (fun _ _ _ h => (by cases h.1)) (Or.inl ⟨by rfl, ?_⟩) hHeld ?_
    rotate_left
    · intro w hSw
      obtain ⟨s0, s1⟩ := hSw
      go_simp
      with_reducible rfl
    simp only [Act.put, List.getElem_toArray, List.getElem_cons_zero, List.getElem_cons_succ, List.setIfInBounds_toArray, List.set_cons_zero, List.set_cons_succ]
    refine wpAnyH_take (i := 6) (v := ?_) rfl (by kernel_rfl) (by kernel_rfl) (by kernel_rfl) (fun _ _ _ h => (by cases h.1)) (Or.inl ⟨by rfl, ?_⟩) hHeld ?_
    rotate_left
    · intro w hSw
      obtain ⟨s0, s1⟩ := hSw
      go_simp
      with_reducible rfl
    simp only [Act.put, List.getElem_toArray, List.getElem_cons_zero, List.getElem_cons_succ, List.setIfInBounds_toArray, List.set_cons_zero, List.set_cons_succ]
    refine wpAnyH_take (i := 7) (v := ?_) rfl (by kernel_rfl) (by kernel_rfl) (by kernel_rfl) (fun _ _ _ h => (by cases h.1)) (Or.inl ⟨by rfl, ?_⟩) hHeld ?_
    rotate_left
    · intro w hSw
      obtain ⟨s0, s1⟩ := hSw
      go_simp
      with_reducible rfl
    simp only [Act.put, List.getElem_toArray, List.getElem_cons_zero, List.getElem_cons_succ, List.setIfInBounds_toArray, List.set_cons_zero, List.set_cons_succ]
    refine wpAnyH_ready (rs := [8, 9]) (by kernel_rfl) (by simp) ?_
    refine AllReadyH.cons rfl (fun K hK => ?_) (AllReadyH.cons rfl (fun K hK => ?_) AllReadyH.nil)
    · go_simp
      go_at_call 191
      refine (HPa.out _ (below_drew9f w)).mono ?_
      rintro e w9 ⟨rfl, rfl⟩
      go_wp2_with fail
      refine hK.out _ _ (CA.out) (fun hHeld => ?_)
      clear hK K
      refine rd 9 (fun K hK => ?_)
      go_simp
      refine hK.out _ _ (CB.out) (fun hHeld => ?_)
      clear hK K
      refine rd 10 (fun K hK => ?_)
      rw [if_pos (by rfl)]
      refine wp_store_mid 215 (.tmp 5) (.tmp 16) rfl w.heap.size 0 XB.toArray rfl rfl HTh.out HBX.out.sizea HBX.out.onea ?_
      refine hK.out _ _ CC.out (fun hHeld => ?_)
      clear hK K
      refine wpAnyH_take (i := 11) (v := ?_) rfl (by kernel_rfl) (by kernel_rfl) (by kernel_rfl) (fun _ _ _ h => (by cases h.1)) (Or.inl ⟨by rfl, ?_⟩) hHeld ?_
      rotate_left
      · intro w hSw
        obtain ⟨s0, s1⟩ := hSw
        go_simp
        with_reducible rfl
      simp only [Act.put, List.getElem_toArray, List.getElem_cons_zero, List.getElem_cons_succ, List.setIfInBounds_toArray, List.set_cons_zero, List.set_cons_succ]
      refine wpAnyH_done (by kernel_rfl) ?_ _
      exact mk_join (fr := (fun gx f => { tmps := #[.pointer (some ⟨g, 0, none⟩), .int .i64 x, undef, undef, .int .i64 0, .pointer (some ⟨gx, 0, none⟩), .int .i64 up, undef, undef, undef, undef, f 11, f 12, f 13, f 14, f 15, f 16, f 17, f 18, f 19, undef, undef, undef, undef, undef, undef, undef, undef, undef, undef, undef, undef, undef, undef, undef, undef, undef, undef, undef, undef, undef, undef, undef, undef, undef, undef, undef, undef, undef, undef, undef, undef, undef, undef, undef, undef, undef, undef, undef, undef, undef, undef, undef, undef, undef, undef, undef, undef, undef, undef, undef, undef, undef, undef, undef, undef, undef, undef, undef, undef, undef, undef], defers := [] })) (Φ := (fun gx W => Blk W gx 215 XB.toArray ∧ Below w.heap.size w W ∧ w.heap.size ≤ gx)) w.heap.size HPh.out rfl
    · go_simp
      refine hK.out _ _ (CB.out) (fun hHeld => ?_)
      clear hK K
      refine rd 8 (fun K hK => ?_)
      go_simp
      go_at_call 191
      refine (HPa.out _ (bthen (below_drew9f w) (alloc_below _ _))).mono ?_
      rintro e w9 ⟨rfl, rfl⟩
      go_wp2_with fail
      refine hK.out _ _ (CB.out) (fun hHeld => ?_)
      clear hK K
      refine rd 10 (fun K hK => ?_)
      rw [if_pos (by rfl)]
      refine wp_store_mid 215 (.tmp 5) (.tmp 16) rfl w.heap.size 0 XB.toArray rfl rfl HTh.out HBX.out.sizea HBX.out.onea ?_
      refine hK.out _ _ CC.out (fun hHeld => ?_)
      clear hK K
      refine wpAnyH_take (i := 11) (v := ?_) rfl (by kernel_rfl) (by kernel_rfl) (by kernel_rfl) (fun _ _ _ h => (by cases h.1)) (Or.inl ⟨by rfl, ?_⟩) hHeld ?_
      rotate_left
      · intro w hSw
        obtain ⟨s0, s1⟩ := hSw
        go_simp
        with_reducible rfl
      simp only [Act.put, List.getElem_toArray, List.getElem_cons_zero, List.getElem_cons_succ, List.setIfInBounds_toArray, List.set_cons_zero, List.set_cons_succ]
      refine wpAnyH_done (by kernel_rfl) ?_ _
      exact mk_join (fr := (fun gx f => { tmps := #[.pointer (some ⟨g, 0, none⟩), .int .i64 x, undef, undef, .int .i64 0, .pointer (some ⟨gx, 0, none⟩), .int .i64 up, undef, undef, undef, undef, f 11, f 12, f 13, f 14, f 15, f 16, f 17, f 18, f 19, undef, undef, undef, undef, undef, undef, undef, undef, undef, undef, undef, undef, undef, undef, undef, undef, undef, undef, undef, undef, undef, undef, undef, undef, undef, undef, undef, undef, undef, undef, undef, undef, undef, undef, undef, undef, undef, undef, undef, undef, undef, undef, undef, undef, undef, undef, undef, undef, undef, undef, undef, undef, undef, undef, undef, undef, undef, undef, undef, undef, undef, undef], defers := [] })) (Φ := (fun gx W => Blk W gx 215 XB.toArray ∧ Below w.heap.size w W ∧ w.heap.size ≤ gx)) w.heap.size HPh.out rfl
  · rintro gx f W ⟨hbk, hbw, hgx⟩
    clear CA CB CC HTh HPh hal HPa hg
    have KB := Lib.hid hbk
    have HH := Lib.hid (HHa.out W hbw)
    have HB := Lib.hid hbw
    clear hbk hbw HHa HSu
    go_wp2_with fail
    refine HH.out.mono ?_
    rintro e W1 ⟨rfl, b1⟩
    replace KB := Lib.hid (KB.out.keep b1)
    replace HB := Lib.hid (bthen HB.out b1)
    obtain ⟨c2, hg, hl⟩ := HLs.out W1 HB.out
    have HLs3 : Hid (∀ u, Below w.heap.size w u → u.cell? ⟨g, 2, none⟩ = some (.map (some gs)) ∧ g < u.heap.size ∧ True) := Lib.hid (fun u q => ⟨(HLs.out u q).1, (HLs.out u q).2.1, trivial⟩)
    clear b1 HH HLs
    cases ho with
    | false =>
      obtain ⟨hr0, hb0⟩ := HRB.out W1 gx KB.out
      have zx := KB.out.lt
      obtain ⟨hd2, hhd⟩ : ∃ hd2, hd2 = nd.2 := ⟨_, rfl⟩
      obtain ⟨w2, r2, hch, hoth, c22⟩ := HPut.out W1.drew (⟨x, nd.1, !nd.2⟩, 1) (bthen HB.out (below_drew9f W1))
      have HSE : Hid (w2.cell? ⟨g, 2, none⟩ = some (.map (some gs)) ∧ w2.cell? ⟨gx, 12, none⟩ = some (.bool nd.2) ∧ w2.rangeAt gx 0 MB) := Lib.hid (by
        have k2 := KB.out.same (w' := w2) (hoth gx hgx zx)
        exact ⟨c22, (HRB.out w2 gx k2).2, (HRB.out w2 gx k2).1⟩)
      clear hoth c22
      have hch' : ChL w w2 p (wS p (rchS p.S x (rchV nd false ou x).1)) := hch
      have HCh := Lib.hid hch'
      have hbs1 : ∀ W, (Instr.build 228 #[(0, .agg MB.toArray), (1, .bool !hd2)]).run Tryz.prog W = .ok (.agg (MB ++ [Value.bool !hd2]).toArray) W := fun W => by rw [HMe.out]; exact bld_state _ _ W
      have hbs2 : ∀ W, (Instr.build 299 #[(0, .agg (MB ++ [Value.bool !hd2]).toArray), (1, .int .i64 1)]).run Tryz.prog W = .ok (.agg (MB ++ [Value.bool !hd2, Value.int .i64 1]).toArray) W := fun W => by rw [HMe.out]; exact bld_reached _ _ _ W
      have r2' : (Instr.mapUpdate 198 (.map (some gs)) (.int .i64 x) (.agg (MB ++ [Value.bool !hd2, Value.int .i64 1]).toArray)).run Tryz.prog W1.drew = .ok () w2 := by
        rw [HMe.out, hhd]
        exact r2
      rw [← hhd] at hb0 HSE
      obtain ⟨X1, hX1⟩ : ∃ X1, X1 = MB ++ [Value.bool !hd2] := ⟨_, rfl⟩
      obtain ⟨X2, hX2⟩ : ∃ X2, X2 = MB ++ [Value.bool !hd2, Value.int .i64 1] := ⟨_, rfl⟩
      rw [← hX1] at hbs1 hbs2
      rw [← hX2] at hbs2 r2'
      have SA := Lib.hid (And.intro c2 (And.intro hb0 hr0))
      clear hch hch' r2 hl HPut HSt HSo HOk hhd hX1 hX2 HRB c2 hb0 hr0
      go_wp2
      refine wp_region_held_drew (S := fun w' => w'.cell? ⟨g, 2, none⟩ = some (.map (some gs)) ∧ w'.cell? ⟨gx, 12, none⟩ = some (.bool hd2) ∧ w'.rangeAt gx 0 MB) (by kernel_rfl) (SA.out) (fun hHeld => ?_)
      refine tk 0 hHeld ?_
      refine tk 1 hHeld ?_
      refine tk 2 hHeld ?_
      refine tk 3 hHeld ?_
      refine tk 4 hHeld ?_
      refine tk 5 hHeld ?_
      refine tkl 6 rfl (yieldsIf_load_mid (by rfl) _ _ rfl _ _ rfl _ _ (fun _ h => h.2.2) Tryz.underlying46 rfl HMB.out.size) hHeld ?_
      refine tk 7 hHeld ?_
      refine tk 8 hHeld ?_
      refine tk 9 hHeld ?_
      refine wpAnyH_take (i := 10) (v := (.agg X1.toArray)) rfl (by kernel_rfl) (by kernel_rfl) (by kernel_rfl) (fun _ _ _ h => h) (yieldsIf_bld (by rfl) 228 _ _ rfl (.agg MB.toArray) (.bool !hd2) (.agg X1.toArray) rfl rfl hbs1) hHeld ?_
      simp only [Act.put, List.getElem_toArray, List.getElem_cons_zero, List.getElem_cons_succ, List.setIfInBounds_toArray, List.set_cons_zero, List.set_cons_succ]
      refine wpAnyH_take (i := 11) (v := (.agg X2.toArray)) rfl (by kernel_rfl) (by kernel_rfl) (by kernel_rfl) (fun _ _ _ h => h) (yieldsIf_bld (by rfl) 299 _ _ rfl (.agg X1.toArray) (.int .i64 1) (.agg X2.toArray) rfl rfl hbs2) hHeld ?_
      simp only [Act.put, List.getElem_toArray, List.getElem_cons_zero, List.getElem_cons_succ, List.setIfInBounds_toArray, List.set_cons_zero, List.set_cons_succ]
      refine rd 12 (fun K hK => ?_)
      go_simp
      refine hK.out _ _ HSE.out (fun hHeld => ?_)
      clear hK K
      refine wpAnyH_done (by kernel_rfl) ?_ _
      go_wp2
      go_ret
      exact ⟨rfl, HCh.out⟩
    | true =>
      have HRX := Lib.hid (rx_any (ou.getD zRf))
      have HRR : Hid (∀ W gg, Blk W gg 299 (cSd (ou.getD zRf)).toArray → W.rangeAt gg 0 (lM (ou.getD zRf).1.wo) ∧ W.cell? ⟨gg, 12, none⟩ = some (.bool (ou.getD zRf).1.sh) ∧ W.cell? ⟨gg, 13, none⟩ = some (.int .i64 (ou.getD zRf).2)) := Lib.hid (fun W gg k => ⟨blk_range k 0 12, k.cell 12, k.cell 13⟩)
      have hg1 : w.heap.size ≤ W1.heap.size := HB.out.size
      obtain ⟨XR, hXR⟩ : ∃ XR, XR = cSd (ou.getD zRf) := ⟨_, rfl⟩
      rw [← hXR] at HRX HRR hl
      have HT7 : Hid ((W1.alloc (.cells (cSd zRf).toArray 299)).there W1.heap.size 0 XR.toArray.size) := Lib.hid (blk_there (Blk.new W1 _ _) (by rw [List.size_toArray, HRX.out.len]; exact Nat.le_refl 14))
      have hal7 : Below W1.heap.size W1 (W1.alloc (.cells (cSd zRf).toArray 299)) := alloc_below _ _
      have hbs7 : Below W1.heap.size W1 ((W1.alloc (.cells (cSd zRf).toArray 299)).setCells W1.heap.size 0 XR) := below_setCells XR hal7 (Nat.le_refl _)
      have HE7 : Hid (Blk ((W1.alloc (.cells (cSd zRf).toArray 299)).setCells W1.heap.size 0 XR) W1.heap.size 299 XR.toArray ∧ Blk ((W1.alloc (.cells (cSd zRf).toArray 299)).setCells W1.heap.size 0 XR) gx 215 XB.toArray ∧ Below w.heap.size w ((W1.alloc (.cells (cSd zRf).toArray 299)).setCells W1.heap.size 0 XR)) := Lib.hid ⟨blk_over (Blk.new W1 _ _) (by rw [HRX.out.len]; rfl), KB.out.keep hbs7, bthen HB.out hbs7⟩
      obtain ⟨os, hos⟩ : ∃ os, os = ou.isSome := ⟨_, rfl⟩
      rw [← hos] at hl
      clear hXR hal7 hbs7
      go_upto_region 6 with (refine wpList_store_mid rfl 299 (.tmp 7) (.tmp 43) rfl W1.heap.size 0 XR.toArray rfl rfl HT7.out HRX.out.sizea HRX.out.onea ?_)
      refine fin (fun W => Blk W W1.heap.size 299 XR.toArray ∧ Blk W gx 215 XB.toArray ∧ Below w.heap.size w W) HE7.out ?_
      clear HE7 HT7 HRX hl c2 hg KB HB
      obtain ⟨g7, hg7⟩ : ∃ g7, g7 = W1.heap.size := ⟨_, rfl⟩
      rw [← hg7] at hg1 ⊢
      rintro W2 ⟨k7, kb, hb2⟩
      have K7 := Lib.hid k7
      have KB := Lib.hid kb
      have HB := Lib.hid hb2
      clear k7 kb hb2 hg7
      cases ou with
      | none =>
        have hos' : os = false := hos
        subst hos'
        have HS0 := Lib.hid (HSt.out W2 HB.out)
        clear hos HSt HPut HSo
        go_wp2
        go_ret
        exact ⟨rfl, HS0.out⟩
      | some u =>
        have hos' : os = true := hos
        subst hos'
        obtain ⟨hr7, hb7, hd7⟩ := HRR.out W2 g7 K7.out
        have zg7 := K7.out.lt
        obtain ⟨hok, hdl⟩ := HSo.out u rfl
        have hV : rchV nd true (some u) x = if 16 ≤ u.2 then (none, 7) else if prodE2 u.1.wo nd.1 = 0 then (some (⟨x, prodM u.1.wo nd.1, u.1.sh && !nd.2⟩, u.2 + 1), 0) else (none, prodE2 u.1.wo nd.1) := rfl
        replace hd7 : W2.cell? ⟨g7, 13, none⟩ = some (.int .i64 (u.2 : Int)) := hd7
        clear hos
        by_cases h16 : 16 ≤ u.2
        · rw [if_pos h16] at hV
          have HS0 : Hid (ChL w W2 p (wS p (rchS p.S x (rchV nd true (some u) x).1))) := Lib.hid (by rw [hV]; exact HSt.out W2 HB.out)
          have HRe : Hid ((rchV nd true (some u) x).2 = 7) := Lib.hid (by rw [hV])
          obtain ⟨d, hd⟩ : ∃ d, d = u.2 := ⟨_, rfl⟩
          rw [← hd] at h16 hd7
          have h16' : (16 : Int) ≤ (d : Int) := by omega
          have h16b : decide ((16 : Int) ≤ (d : Int)) = true := decide_eq_true h16'
          clear hV HSt HPut HSo hd hok hdl HRR hr7 hb7 h16
          go_wp2
          go_ret
          exact ⟨by rw [HRe.out] <;> rfl, HS0.out⟩
        · rw [if_neg h16] at hV
          have HMul : Hid (∀ W gg, Blk W gg 46 (lM u.1.wo ++ MB).toArray → Calls Tryz.prog 254 #[.slice (some ⟨gg, 0, none⟩) 2 2] W fun e w' => e = .returned (.tuple #[.agg (lM (if prodE2 u.1.wo nd.1 = 0 then prodM u.1.wo nd.1 else zeroM)).toArray, .int .i64 (prodE2 u.1.wo nd.1)]) ∧ Below W.heap.size W w') := Lib.hid (fun W gg k => lmul_two u.1.wo nd.1 hok HOk.out W gg (by rw [HMe.out] at k; exact k))
          have HBs : Hid (∀ W, (Instr.buildSlice 326 2 #[(0, .agg (lM u.1.wo).toArray), (1, .agg MB.toArray)]).run Tryz.prog W = .ok (.slice (some ⟨W.heap.size, 0, none⟩) 2 2) (W.alloc (.cells (lM u.1.wo ++ MB).toArray 46))) := Lib.hid (fun W => by rw [HMe.out]; exact bs_mats _ _ W)
          have HMU := Lib.hid (mx_any u.1.wo)
          have HR7 : Hid (W2.rangeAt g7 0 (lM u.1.wo)) := Lib.hid hr7
          have HRx : Hid (W2.rangeAt gx 0 MB) := Lib.hid (HRB.out W2 gx KB.out).1
          have HMX := Lib.hid (mx_any (if prodE2 u.1.wo nd.1 = 0 then prodM u.1.wo nd.1 else zeroM))
          obtain ⟨MU, hMU⟩ : ∃ MU, MU = lM u.1.wo := ⟨_, rfl⟩
          obtain ⟨E, hE⟩ : ∃ E, E = prodE2 u.1.wo nd.1 := ⟨_, rfl⟩
          rw [← hMU] at HMul HBs HMU HR7
          rw [← hE] at HMul HMX hV
          obtain ⟨PM, hPM⟩ : ∃ PM, PM = (if E = 0 then prodM u.1.wo nd.1 else zeroM) := ⟨_, rfl⟩
          rw [← hPM] at HMul HMX
          obtain ⟨MP, hMP⟩ : ∃ MP, MP = lM PM := ⟨_, rfl⟩
          rw [← hMP] at HMul HMX
          obtain ⟨ZZ, hZZ⟩ : ∃ ZZ, ZZ = MU ++ MB := ⟨_, rfl⟩
          rw [← hZZ] at HMul HBs
          have HMPe := Lib.hid hMP
          have HPMe := Lib.hid hPM
          have HVe := Lib.hid hV
          obtain ⟨d, hd⟩ : ∃ d, d = u.2 := ⟨_, rfl⟩
          have HD := Lib.hid hd
          rw [← hd] at h16 hd7 hdl
          have h16' : ¬ (16 : Int) ≤ (d : Int) := by omega
          have HBl : Hid (∀ V, Below W2.heap.size W2 V → Blk V g7 299 XR.toArray ∧ Blk V gx 215 XB.toArray ∧ Below w.heap.size w V) := Lib.hid (fun V q => ⟨K7.out.keep q, KB.out.keep q, bthen HB.out q⟩)
          have hg2 : w.heap.size ≤ W2.heap.size := HB.out.size
          clear hV hr7 hb7 hok hMU hE hPM hMP hZZ hd h16 HOk HSo KB HB
          go_wp2_with (first | refine wpList_load_mid rfl 46 (.tmp 52) rfl g7 0 rfl MU _ HR7.out Tryz.underlying46 rfl HMU.out.size ?_ | refine wpList_load_mid rfl 46 (.tmp 54) rfl gx 0 rfl MB _ HRx.out Tryz.underlying46 rfl HMB.out.size ?_ | refine wpList_bs2 rfl 326 46 (.tmp 53) (.tmp 55) rfl MU MB ZZ rfl rfl HBs.out ?_)
          refine (HMul.out _ _ (Blk.new W2 _ _)).mono ?_
          rintro e V ⟨rfl, bv⟩
          have hbv : Below W2.heap.size W2 V := bthen (alloc_below _ _) bv
          have HT9 : Hid ((V.alloc (.cells (lM zeroM).toArray 46)).there V.heap.size 0 MP.toArray.size) := Lib.hid (blk_there (Blk.new V _ _) (by have := HMX.out.len; rw [List.size_toArray, this]; exact Nat.le_refl 12))
          have hal9 : Below V.heap.size V (V.alloc (.cells (lM zeroM).toArray 46)) := alloc_below _ _
          have hbs9 : Below V.heap.size V ((V.alloc (.cells (lM zeroM).toArray 46)).setCells V.heap.size 0 MP) := below_setCells MP hal9 (Nat.le_refl _)
          have HE9 : Hid (Blk ((V.alloc (.cells (lM zeroM).toArray 46)).setCells V.heap.size 0 MP) V.heap.size 46 MP.toArray ∧ Below W2.heap.size W2 ((V.alloc (.cells (lM zeroM).toArray 46)).setCells V.heap.size 0 MP)) := Lib.hid ⟨blk_over (Blk.new V _ _) (by rw [HMX.out.len]; rfl), bthen hbv hbs9⟩
          have hg9 : W2.heap.size ≤ V.heap.size := hbv.size
          clear bv hbv hal9 hbs9 HMul HBs HR7 HRx hd7 zg7 K7
          go_upto_region 11 with (refine wpList_store_mid rfl 46 (.tmp 9) (.tmp 58) rfl V.heap.size 0 MP.toArray rfl rfl HT9.out HMX.out.sizea HMX.out.onea ?_)
          refine fin (fun W => Blk W V.heap.size 46 MP.toArray ∧ Below W2.heap.size W2 W) HE9.out ?_
          clear HE9 HT9
          obtain ⟨g9, hg9e⟩ : ∃ g9, g9 = V.heap.size := ⟨_, rfl⟩
          rw [← hg9e] at hg9 ⊢
          rintro W3 ⟨k9, hb3⟩
          obtain ⟨k7, kb, hbw3⟩ := HBl.out W3 hb3
          have HB := Lib.hid hbw3
          clear hg9e HBl hb3
          by_cases hE0 : E = 0
          · subst hE0
            rw [if_pos rfl] at HVe HPMe
            obtain ⟨c2, hg, -⟩ := HLs3.out W3 HB.out
            obtain ⟨w2, r2, hch, hoth, c22⟩ := HPut.out W3.drew (⟨x, prodM u.1.wo nd.1, u.1.sh && !nd.2⟩, d + 1) (bthen HB.out (below_drew9f W3))
            have HCh : Hid (ChL w w2 p (wS p (rchS p.S x (rchV nd true (some u) x).1))) := Lib.hid (by rw [HVe.out, ← HD.out]; exact hch)
            have HRe : Hid ((rchV nd true (some u) x).2 = 0) := Lib.hid (by rw [HVe.out])
            have hr9 : W3.rangeAt g9 0 MP := blk_whole k9
            obtain ⟨_, hb7, hd7⟩ := HRR.out W3 g7 k7
            replace hd7 : W3.cell? ⟨g7, 13, none⟩ = some (.int .i64 (d : Int)) := by rw [HD.out]; exact hd7
            have hbx := (HRB.out W3 gx kb).2
            replace hb7 : W3.cell? ⟨g7, 12, none⟩ = some (.bool u.1.sh) := hb7
            have zx := kb.lt
            have z7 := k7.lt
            have z9 := k9.lt
            have HSE : Hid (w2.cell? ⟨g, 2, none⟩ = some (.map (some gs)) ∧ w2.cell? ⟨g7, 12, none⟩ = some (.bool u.1.sh) ∧ w2.cell? ⟨g7, 13, none⟩ = some (.int .i64 (d : Int)) ∧ w2.cell? ⟨gx, 12, none⟩ = some (.bool nd.2) ∧ w2.rangeAt g9 0 MP) := Lib.hid (by
              have q7 := k7.same (w' := w2) (hoth g7 hg1 z7)
              have qx := kb.same (w' := w2) (hoth gx hgx zx)
              have q9 := k9.same (w' := w2) (hoth g9 (Nat.le_trans hg2 hg9) z9)
              exact ⟨c22, (HRR.out w2 g7 q7).2.1, by rw [HD.out]; exact (HRR.out w2 g7 q7).2.2, (HRB.out w2 gx qx).2, blk_whole q9⟩)
            have HR2 : Hid ((Instr.mapUpdate 198 (.map (some gs)) (.int .i64 x) (.agg (MP ++ [Value.bool (u.1.sh && !nd.2), Value.int .i64 ((d : Int) + 1)]).toArray)).run Tryz.prog W3.drew = .ok () w2) := Lib.hid (by
              rw [HMPe.out, HPMe.out]
              exact r2)
            have HB1 : Hid (∀ b W, (Instr.build 228 #[(0, .agg MP.toArray), (1, .bool b)]).run Tryz.prog W = .ok (.agg (MP ++ [Value.bool b]).toArray) W) := Lib.hid (fun b W => by rw [HMPe.out]; exact bld_state _ b W)
            have HB2 : Hid (∀ b W, (Instr.build 299 #[(0, .agg (MP ++ [Value.bool b]).toArray), (1, .int .i64 ((d : Int) + 1))]).run Tryz.prog W = .ok (.agg (MP ++ [Value.bool b, Value.int .i64 ((d : Int) + 1)]).toArray) W) := Lib.hid (fun b W => by rw [HMPe.out]; exact bld_reached _ b _ W)
            have hw : IntKind.i64.wrap ((d : Int) + 1) = (d : Int) + 1 := by rw [IntKind.wrap_i64]; omega
            obtain ⟨hd2, hhd⟩ : ∃ hd2, hd2 = nd.2 := ⟨_, rfl⟩
            obtain ⟨sh, hsh⟩ : ∃ sh, sh = u.1.sh := ⟨_, rfl⟩
            rw [← hhd] at hbx HSE HR2
            rw [← hsh] at hb7 HSE HR2
            have SA := Lib.hid (And.intro c2 (And.intro hb7 (And.intro hd7 (And.intro hbx hr9))))
            clear hch r2 hoth c22 c2 hb7 hd7 hbx hr9 hhd hsh k7 kb k9 HPut HSt HVe HPMe HMPe HRR HRB HLs3 HD h16'
            cases sh with
            | false =>
              have hbs1 := HB1.out false
              have hbs2 := HB2.out false
              have hr2 := HR2.out
              rw [Bool.false_and] at hr2
              obtain ⟨X1, hX1⟩ : ∃ X1, X1 = MP ++ [Value.bool false] := ⟨_, rfl⟩
              obtain ⟨X2, hX2⟩ : ∃ X2, X2 = MP ++ [Value.bool false, Value.int .i64 ((d : Int) + 1)] := ⟨_, rfl⟩
              rw [← hX1] at hbs1 hbs2
              rw [← hX2] at hbs2 hr2
              clear HB1 HB2 HR2 hX1 hX2
              go_wp2
              refine wp_region_held_drew (S := fun w' => w'.cell? ⟨g, 2, none⟩ = some (.map (some gs)) ∧ w'.cell? ⟨g7, 12, none⟩ = some (.bool false) ∧ w'.cell? ⟨g7, 13, none⟩ = some (.int .i64 (d : Int)) ∧ w'.cell? ⟨gx, 12, none⟩ = some (.bool hd2) ∧ w'.rangeAt g9 0 MP) (by kernel_rfl) (SA.out) (fun hHeld => ?_)
              refine tk 0 hHeld ?_
              refine tk 1 hHeld ?_
              refine tk 2 hHeld ?_
              refine tk 3 hHeld ?_
              refine tk 4 hHeld ?_
              refine tkl 5 rfl (yieldsIf_load_mid (by rfl) _ _ rfl _ _ rfl _ _ (fun _ h => h.2.2.2.2) Tryz.underlying46 rfl HMX.out.size) hHeld ?_
              refine tk 6 hHeld ?_
              refine tk 7 hHeld ?_
              refine tk 8 hHeld ?_
              refine tk 9 hHeld ?_
              refine tks 10 hHeld ?_
              refine tks 11 hHeld ?_
              refine tks 12 hHeld ?_
              refine tk 13 hHeld ?_
              refine wpAnyH_take (i := 14) (v := (.agg X1.toArray)) rfl (by kernel_rfl) (by kernel_rfl) (by kernel_rfl) (fun _ _ _ h => h) (yieldsIf_bld (by rfl) 228 _ _ rfl (.agg MP.toArray) (.bool false) (.agg X1.toArray) rfl rfl hbs1) hHeld ?_
              simp only [Act.put, List.getElem_toArray, List.getElem_cons_zero, List.getElem_cons_succ, List.setIfInBounds_toArray, List.set_cons_zero, List.set_cons_succ]
              refine tk 15 hHeld ?_
              refine tk 16 hHeld ?_
              refine tk 17 hHeld ?_
              refine wpAnyH_take (i := 18) (v := (.agg X2.toArray)) rfl (by kernel_rfl) (by kernel_rfl) (by kernel_rfl) (fun _ _ _ h => h) (yieldsIf_bld (by rfl) 299 _ _ rfl (.agg X1.toArray) (.int .i64 ((d : Int) + 1)) (.agg X2.toArray) rfl rfl hbs2) hHeld ?_
              simp only [Act.put, List.getElem_toArray, List.getElem_cons_zero, List.getElem_cons_succ, List.setIfInBounds_toArray, List.set_cons_zero, List.set_cons_succ]
              refine rd 19 (fun K hK => ?_)
              go_simp
              refine hK.out _ _ HSE.out (fun hHeld => ?_)
              clear hK K
              refine wpAnyH_done (by kernel_rfl) ?_ _
              go_wp2
              go_ret
              exact ⟨by rw [HRe.out] <;> rfl, HCh.out⟩
            | true =>
              have hbs1 := HB1.out (!hd2)
              have hbs2 := HB2.out (!hd2)
              have hr2 := HR2.out
              rw [Bool.true_and] at hr2
              obtain ⟨X1, hX1⟩ : ∃ X1, X1 = MP ++ [Value.bool !hd2] := ⟨_, rfl⟩
              obtain ⟨X2, hX2⟩ : ∃ X2, X2 = MP ++ [Value.bool !hd2, Value.int .i64 ((d : Int) + 1)] := ⟨_, rfl⟩
              rw [← hX1] at hbs1 hbs2
              rw [← hX2] at hbs2 hr2
              clear HB1 HB2 HR2 hX1 hX2
              go_wp2
              refine wp_region_held_drew (S := fun w' => w'.cell? ⟨g, 2, none⟩ = some (.map (some gs)) ∧ w'.cell? ⟨g7, 12, none⟩ = some (.bool true) ∧ w'.cell? ⟨g7, 13, none⟩ = some (.int .i64 (d : Int)) ∧ w'.cell? ⟨gx, 12, none⟩ = some (.bool hd2) ∧ w'.rangeAt g9 0 MP) (by kernel_rfl) (SA.out) (fun hHeld => ?_)
              refine tk 0 hHeld ?_
              refine tk 1 hHeld ?_
              refine tk 2 hHeld ?_
              refine tk 3 hHeld ?_
              refine tk 4 hHeld ?_
              refine tkl 5 rfl (yieldsIf_load_mid (by rfl) _ _ rfl _ _ rfl _ _ (fun _ h => h.2.2.2.2) Tryz.underlying46 rfl HMX.out.size) hHeld ?_
              refine tk 6 hHeld ?_
              refine tk 7 hHeld ?_
              refine tk 8 hHeld ?_
              refine tk 9 hHeld ?_
              refine tk 10 hHeld ?_
              refine tk 11 hHeld ?_
              refine tk 12 hHeld ?_
              refine tk 13 hHeld ?_
              refine wpAnyH_take (i := 14) (v := (.agg X1.toArray)) rfl (by kernel_rfl) (by kernel_rfl) (by kernel_rfl) (fun _ _ _ h => h) (yieldsIf_bld (by rfl) 228 _ _ rfl (.agg MP.toArray) (.bool !hd2) (.agg X1.toArray) rfl rfl hbs1) hHeld ?_
              simp only [Act.put, List.getElem_toArray, List.getElem_cons_zero, List.getElem_cons_succ, List.setIfInBounds_toArray, List.set_cons_zero, List.set_cons_succ]
              refine tk 15 hHeld ?_
              refine tk 16 hHeld ?_
              refine tk 17 hHeld ?_
              refine wpAnyH_take (i := 18) (v := (.agg X2.toArray)) rfl (by kernel_rfl) (by kernel_rfl) (by kernel_rfl) (fun _ _ _ h => h) (yieldsIf_bld (by rfl) 299 _ _ rfl (.agg X1.toArray) (.int .i64 ((d : Int) + 1)) (.agg X2.toArray) rfl rfl hbs2) hHeld ?_
              simp only [Act.put, List.getElem_toArray, List.getElem_cons_zero, List.getElem_cons_succ, List.setIfInBounds_toArray, List.set_cons_zero, List.set_cons_succ]
              refine rd 19 (fun K hK => ?_)
              go_simp
              refine hK.out _ _ HSE.out (fun hHeld => ?_)
              clear hK K
              refine wpAnyH_done (by kernel_rfl) ?_ _
              go_wp2
              go_ret
              exact ⟨by rw [HRe.out] <;> rfl, HCh.out⟩
          · rw [if_neg hE0] at HVe
            have HS0 : Hid (ChL w W3 p (wS p (rchS p.S x (rchV nd true (some u) x).1))) := Lib.hid (by rw [HVe.out]; exact HSt.out W3 HB.out)
            have HRe : Hid ((rchV nd true (some u) x).2 = E) := Lib.hid (by rw [HVe.out])
            clear HPut HSt HVe HPMe HMPe HRR HRB HD k7 kb k9
            go_wp2
            go_ret
            exact ⟨by rw [HRe.out] <;> rfl, HS0.out⟩
end
end Go.Proofs.YthhfcedhbfandaaGreat
