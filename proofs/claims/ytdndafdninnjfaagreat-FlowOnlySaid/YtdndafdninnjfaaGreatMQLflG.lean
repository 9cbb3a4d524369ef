/-
  The landed flow: move, moves.
-/
import Derived.Test.YtdndafdninnjfaaGreatMQLflF
namespace Go.Proofs.YtdndafdninnjfaaGreat
open Go.RowKit

/-! ties -/
theorem tie_wf : ∀ (X : List LK) {T : FT}, WF T → WF (tieG T X).1
  | [], _, h => h
  | lk :: r, T, h => by
    unfold tieG
    by_cases c : lk.2 < 0
    · rw [if_pos c]; exact tie_wf r h
    · rw [if_neg c]
      by_cases d : fsetE T lk.1 lk.2 = 0
      · rw [if_pos d]
        have := h.set9 lk.1 lk.2
        unfold setS9 at this
        rw [if_pos d] at this
        exact tie_wf r this
      · rw [if_neg d]; exact h
theorem tie_len : ∀ (X : List LK) (T : FT), (tieG T X).1.length ≤ T.length + X.length
  | [], T => Nat.le_refl _
  | lk :: r, T => by
    unfold tieG
    by_cases c : lk.2 < 0
    · rw [if_pos c]
      have := tie_len r T
      rw [List.length_cons]; omega
    · rw [if_neg c]
      by_cases d : fsetE T lk.1 lk.2 = 0
      · rw [if_pos d]
        have := tie_len r (setF T lk.1 lk.2)
        have := setF_len T lk.1 lk.2
        rw [List.length_cons]; omega
      · rw [if_neg d]
        show T.length ≤ _
        omega
def movT (T : FT) (X Y : List LK) : FT := if (tieG (freeS T (X.map Prod.fst)) X).2 = 0 then (tieG (freeS T (X.map Prod.fst)) X).1 else (tieG (freeS (tieG (freeS T (X.map Prod.fst)) X).1 (Y.map Prod.fst)) Y).1
section
variable {w : World} {p : Wp}
set_option maxHeartbeats 2000000 in
set_option maxRecDepth 100000 in
theorem lfmove_any (h : LW w p) (hW : WF p.T) {a b : Option Addr} {n m cap cap' : Nat} {X Y : List LK} (row : RowX 2 cLk w a n X) (ha : AwX (footL p) a n) (hX : ∀ k ∈ X, Rg k.1 ∧ Rg k.2) (row2 : RowX 2 cLk w b m Y) (ha2 : AwX (footL p) b m) (hY : ∀ k ∈ Y, Rg k.1 ∧ Rg k.2) (hin : ∀ ad, b = some ad → m = 0 ∨ ad.block < w.heap.size) (hlen : p.T.length + n + m ≤ 1000) :
    Calls Tryz.prog 36 #[.pointer (some ⟨p.g, 0, none⟩), .slice a n cap, .slice b m cap'] w fun e w' => e = .returned (.int .i64 (tieG (freeS p.T (X.map Prod.fst)) X).2) ∧ ∃ Ff, ChL w w' p (wT p (movT p.T X Y) Ff) := by
  have hxl := row.1
  have H1 := Lib.hid (lftie_any (cap := cap) h hW row ha hX (by omega))
  have H2 : Hid (∀ u Ff, ChL w u p (wT p (tieG (freeS p.T (X.map Prod.fst)) X).1 Ff) → Calls Tryz.prog 61 #[.pointer (some ⟨p.g, 0, none⟩), .slice b m cap'] u fun e w' => ∃ z, e = .returned (.int .i64 z) ∧ ∃ Ff, ChL w w' p (wT p (tieG (freeS (tieG (freeS p.T (X.map Prod.fst)) X).1 (Y.map Prod.fst)) Y).1 Ff)) := Lib.hid (fun u Ff k => by
    refine (lftie_any (cap := cap') k.1 (tie_wf X (WF.frees _ hW)) (rowx_frame row2 ha2 k.2.1) ?_ hY ?_).mono ?_
    · rcases ha2 with c | c
      · exact Or.inl c
      · by_cases hm : m = 0
        · exact Or.inl hm
        · refine Or.inr (fun ad e hf => ?_)
          rcases k.2.2 ad.block hf with d | d
          · exact c ad e d
          · rcases hin ad e with q | q
            · exact hm q
            · omega
    · show (tieG (freeS p.T (X.map Prod.fst)) X).1.length + m ≤ 1000
      have := tie_len X (freeS p.T (X.map Prod.fst))
      have := frees_len (X.map Prod.fst) p.T
      omega
    · rintro e w' ⟨rfl, Ff', hc⟩
      exact ⟨_, rfl, Ff', k.join hc⟩)
  have hmv : movT p.T X Y = if (tieG (freeS p.T (X.map Prod.fst)) X).2 = 0 then (tieG (freeS p.T (X.map Prod.fst)) X).1 else (tieG (freeS (tieG (freeS p.T (X.map Prod.fst)) X).1 (Y.map Prod.fst)) Y).1 := rfl
  obtain ⟨R, hR⟩ : ∃ R, R = tieG (freeS p.T (X.map Prod.fst)) X := ⟨_, rfl⟩
  obtain ⟨R2, hR2⟩ : ∃ R2, R2 = (tieG (freeS R.1 (Y.map Prod.fst)) Y).1 := ⟨_, rfl⟩
  rw [← hR] at H1 H2 hmv ⊢
  rw [← hR2] at H2 hmv
  have HMv := Lib.hid hmv
  obtain ⟨E, hE⟩ : ∃ E, E = R.2 := ⟨_, rfl⟩
  rw [← hE] at H1 HMv ⊢
  clear h hW row ha hX row2 ha2 hY hin hR hR2 hE hmv
  go_enter Tryz.func36, Tryz.ntmps36
  go_wp2_with fail
  refine H1.out.mono ?_
  rintro e w1 ⟨rfl, Ff, hc⟩
  have HC := Lib.hid hc
  have H3 := Lib.hid (H2.out w1 Ff hc)
  clear hc H1 H2
  by_cases hE0 : E = 0
  · have HM0 : Hid (movT p.T X Y = R.1) := Lib.hid (by rw [HMv.out, if_pos hE0])
    clear H3 HMv
    subst hE0
    go_wp2
    go_ret
    exact ⟨rfl, Ff, by rw [HM0.out]; exact HC.out⟩
  · go_wp2_with fail
    refine H3.out.mono ?_
    rintro e w2 ⟨z, rfl, Ff', hc⟩
    have HC2 := Lib.hid hc
    clear hc H3
    go_wp2
    go_ret
    exact ⟨rfl, Ff', by rw [HMv.out, if_neg hE0]; exact HC2.out⟩
end
/-! moves -/
def wnt (m : Int → Option Nd) (x : Int) : Int := if ((m x).getD zNd).par < -1 then -1 else ((m x).getD zNd).par
def toL (T : FT) (m : Int → Option Nd) (K : List Int) : List LK := K.filterMap (fun x => if parM T x = wnt m x then none else some (x, wnt m x))
def fromL (T : FT) (m : Int → Option Nd) (K : List Int) : List LK := K.filterMap (fun x => if parM T x = wnt m x then none else some (x, parM T x))
theorem fm_step {f : Int → Option LK} {K : List Int} {j : Nat} {z : Int} (h : K[j]? = some z) : (K.take (j + 1)).filterMap f = (K.take j).filterMap f ++ (f z).toList := by
  rw [List.take_add_one, h, List.filterMap_append]
  cases q : f z <;> simp [q]
theorem fm_len (f : Int → Option LK) (K : List Int) (j : Nat) : ((K.take j).filterMap f).length ≤ K.length := by
  have h1 := List.length_filterMap_le f (K.take j)
  rw [List.length_take] at h1
  omega
theorem cLk_len (x : LK) : (cLk x).length = 2 := rfl
theorem cLk_one (x : LK) : ∀ u ∈ cLk x, u.oneCell' = true := fun u hu => by
  unfold cLk at hu
  simp only [List.mem_cons, List.not_mem_nil, or_false] at hu
  rcases hu with h | h <;> (rw [h]; rfl)
theorem zL_info : (Tryz.prog.info? 121).map (fun i => (i.zero, i.size, i.bytes)) = some (some (.agg #[.int .i64 0, .int .i64 0]), 2, 16) := by kernel_rfl
theorem yieldsIf_field {ops : Array Oper} {S : World → Prop} {op : Oper} {a : Go.Act} (hw : Region.wanted op (yielded ops a.tmps) = true) (t : TypeId) (x : Operand) (k : Nat) (ho : op.op = .field t x k) (vx vr : Value) (hx : a.eval x = vx)
    (hrun : ∀ W, (Instr.field t vx k).run Tryz.prog W = .ok vr W) : YieldsIf Tryz.prog ops S op vr a :=
  .inl ⟨hw, fun w _ => by
    unfold execOp
    simp only [ho]
    simp [hx, hrun]⟩
theorem fld_par (a b : Int) (M : Nat → Int) (h : Bool) (W : World) : (Instr.field 59 (.agg #[.int .i64 a, .int .i64 b, .int .i64 (M 0), .int .i64 (M 1), .int .i64 (M 2), .int .i64 (M 3), .int .i64 (M 4), .int .i64 (M 5), .int .i64 (M 6), .int .i64 (M 7), .int .i64 (M 8), .int .i64 (M 9), .int .i64 (M 10), .int .i64 (M 11), .bool h]) 1).run Tryz.prog W = .ok (.int .i64 b) W := by kernel_rfl
theorem bs_link (x y : Int) (W : World) : (Instr.buildSlice 92 1 #[(0, .agg ([.int .i64 x, .int .i64 y] : List Value).toArray)]).run Tryz.prog W = .ok (.slice (some ⟨W.heap.size, 0, none⟩) 1 1) (W.alloc (.cells ([.int .i64 x, .int .i64 y] : List Value).toArray 121)) := by kernel_rfl
abbrev OwnL := OwnX 2 cLk 121
section
variable {w : World} {p : Wp}
set_option maxHeartbeats 4000000 in
set_option maxRecDepth 100000 in
theorem lfmoves_any (h : LW w p) {gl : Nat} {m : Int → Option Nd} (hm : MF nK w gl m) {a : Option Addr} {n cap : Nat} {K : List Int} (row : Row w a n K) (hn : n ≤ 1000) (hK : Rgs K) :
    Calls Tryz.prog 35 #[.pointer (some ⟨p.g, 0, none⟩), .slice a n cap, .map (some gl)] w fun e w' => ∃ v1 v2, e = .returned (.tuple #[v1, v2]) ∧ OwnL w' w.heap.size v1 (toL p.T m K) ∧ OwnL w' w.heap.size v2 (fromL p.T m K) ∧ Below w.heap.size w w' := by
  have hbig := row.2.1
  have HLen := Lib.hid row.1
  have HRow : Hid (∀ u, Below w.heap.size w u → Row u a n K) := Lib.hid (fun u q => row_keep row q)
  have HPa : Hid (∀ u z, Below w.heap.size w u → Rg z → Calls Tryz.prog 60 #[.pointer (some ⟨p.g, 0, none⟩), .int .i64 z] u fun e w' => e = .returned (.int .i64 (parM p.T z)) ∧ u = w') := Lib.hid (fun u z q hz => lfparent_any (h.keep q) hz)
  have HLk : Hid (∀ u z, Below w.heap.size w u → Rg z → (Instr.lookup 90 (.map (some gl)) (.int .i64 z) false).run Tryz.prog u = .ok (.agg #[.int .i64 ((m z).getD zNd).id, .int .i64 ((m z).getD zNd).par, .int .i64 (((m z).getD zNd).pl 0), .int .i64 (((m z).getD zNd).pl 1), .int .i64 (((m z).getD zNd).pl 2), .int .i64 (((m z).getD zNd).pl 3), .int .i64 (((m z).getD zNd).pl 4), .int .i64 (((m z).getD zNd).pl 5), .int .i64 (((m z).getD zNd).pl 6), .int .i64 (((m z).getD zNd).pl 7), .int .i64 (((m z).getD zNd).pl 8), .int .i64 (((m z).getD zNd).pl 9), .int .i64 (((m z).getD zNd).pl 10), .int .i64 (((m z).getD zNd).pl 11), .bool ((m z).getD zNd).hid]) u) := Lib.hid (fun u z q hz => (hm.keep q).get hz)
  have HKr := Lib.hid hK
  have HTo : Hid (∀ j z, K[j]? = some z → toL p.T m (K.take (j + 1)) = toL p.T m (K.take j) ++ (if parM p.T z = wnt m z then [] else [(z, wnt m z)]) ∧ fromL p.T m (K.take (j + 1)) = fromL p.T m (K.take j) ++ (if parM p.T z = wnt m z then [] else [(z, parM p.T z)])) := Lib.hid (fun j z hz => by
    unfold toL fromL
    rw [fm_step hz, fm_step hz]
    by_cases c : parM p.T z = wnt m z
    · simp only [if_pos c]; exact ⟨rfl, rfl⟩
    · simp only [if_neg c]; exact ⟨rfl, rfl⟩)
  have HLn : Hid (∀ j, (toL p.T m (K.take j)).length ≤ n ∧ (fromL p.T m (K.take j)).length ≤ n) := Lib.hid (fun j => by
    rw [← row.1]
    exact ⟨fm_len _ K j, fm_len _ K j⟩)
  obtain ⟨g, hge⟩ : ∃ g, g = p.g := ⟨_, rfl⟩
  obtain ⟨T, hT⟩ : ∃ T, T = p.T := ⟨_, rfl⟩
  rw [← hge] at HPa ⊢
  rw [← hT] at HPa HTo HLn ⊢
  clear h hm row hK hge hT
  go_enter Tryz.func35, Tryz.ntmps35
  go_wp2
  go_loopw [6, 7, 9, 10, 11, 14] (fun v6 v7 _ _ _ i wr => ∃ j : Nat, j ≤ n ∧ i = .int .i64 j ∧ OwnL wr w.heap.size v6 (toL T m (K.take j)) ∧ OwnL wr w.heap.size v7 (fromL T m (K.take j)) ∧ (∀ b, v6.ownBlock = some b → v7.ownBlock ≠ some b) ∧ Below w.heap.size w wr) (fun _ _ _ _ _ i _ => n - (ivl i).toNat)
  case atStart => exact ⟨0, by omega, rfl, OwnX.nil _ _ _ _ _, OwnX.nil _ _ _ _ _, fun b e => (by cases e), Below.refl _ _⟩
  case round =>
    obtain ⟨j, hj, rfl, h1, h2, h3, hb⟩ := hrel
    have HO1 := Lib.hid h1
    have HO2 := Lib.hid h2
    have HNe := Lib.hid h3
    have HB := Lib.hid hb
    have hrw := HRow.out wr hb
    have hszj : w.heap.size ≤ wr.heap.size := hb.size
    clear h1 h2 h3 hb
    by_cases hlt : j < n
    · obtain ⟨b, off, z, rfl, hz, cz⟩ := row_at hrw hlt
      have hbl := World.block_lt_of_cell? _ _ cz
      have hzr := HKr.out z (List.mem_of_getElem? hz)
      have HSt := Lib.hid (HTo.out j z hz)
      have HPz : Hid (∀ u, Below wr.heap.size wr u → Calls Tryz.prog 60 #[.pointer (some ⟨g, 0, none⟩), .int .i64 z] u fun e w' => e = .returned (.int .i64 (parM T z)) ∧ u = w') := Lib.hid (fun u q => HPa.out _ z (bthen HB.out q) hzr)
      have HLz : Hid (∀ u, Below wr.heap.size wr u → (Instr.lookup 90 (.map (some gl)) (.int .i64 z) false).run Tryz.prog u = .ok (.agg #[.int .i64 ((m z).getD zNd).id, .int .i64 ((m z).getD zNd).par, .int .i64 (((m z).getD zNd).pl 0), .int .i64 (((m z).getD zNd).pl 1), .int .i64 (((m z).getD zNd).pl 2), .int .i64 (((m z).getD zNd).pl 3), .int .i64 (((m z).getD zNd).pl 4), .int .i64 (((m z).getD zNd).pl 5), .int .i64 (((m z).getD zNd).pl 6), .int .i64 (((m z).getD zNd).pl 7), .int .i64 (((m z).getD zNd).pl 8), .int .i64 (((m z).getD zNd).pl 9), .int .i64 (((m z).getD zNd).pl 10), .int .i64 (((m z).getD zNd).pl 11), .bool ((m z).getD zNd).hid]) u) := Lib.hid (fun u q => HLk.out _ z (bthen HB.out q) hzr)
      have hwn : wnt m z = if ((m z).getD zNd).par < -1 then -1 else ((m z).getD zNd).par := rfl
      obtain ⟨nd, hnd⟩ : ∃ nd, nd = (m z).getD zNd := ⟨_, rfl⟩
      rw [← hnd] at HLz hwn
      obtain ⟨pr, hpr⟩ : ∃ pr, pr = nd.par := ⟨_, rfl⟩
      rw [← hpr] at HLz hwn
      obtain ⟨hd, hhd⟩ : ∃ hd, hd = parM T z := ⟨_, rfl⟩
      obtain ⟨wv, hwv⟩ : ∃ wv, wv = wnt m z := ⟨_, rfl⟩
      rw [← hhd] at HPz HSt
      rw [← hwv] at HSt hwn
      have HWn := Lib.hid hwn
      have j0 : (0 : Int) ≤ (j : Int) := by omega
      have j1 : (j : Int) < (n : Int) := by omega
      clear hrw hz hzr hnd hpr hhd hwv hwn
      go_wp2
      have hmx : max pr (-1) = wv := by rw [HWn.out]; split <;> omega
      refine wp_region_held_drew (S := fun w' => (Instr.lookup 90 (.map (some gl)) (.int .i64 z) false).run Tryz.prog w' = .ok (.agg #[.int .i64 nd.id, .int .i64 pr, .int .i64 (nd.pl 0), .int .i64 (nd.pl 1), .int .i64 (nd.pl 2), .int .i64 (nd.pl 3), .int .i64 (nd.pl 4), .int .i64 (nd.pl 5), .int .i64 (nd.pl 6), .int .i64 (nd.pl 7), .int .i64 (nd.pl 8), .int .i64 (nd.pl 9), .int .i64 (nd.pl 10), .int .i64 (nd.pl 11), .bool nd.hid]) w') (by kernel_rfl) (HLz.out _ (below_drew9f wr)) (fun hHeld => ?_)
      refine wpAnyH_take (i := 0) (v := ?_) rfl (by kernel_rfl) (by kernel_rfl) (by kernel_rfl) (fun _ _ _ h => h) (Or.inl ⟨by rfl, ?_⟩) hHeld ?_
      rotate_left
      · intro w hSw
        go_simp
        with_reducible rfl
      simp only [Act.put, List.getElem_toArray, List.getElem_cons_zero, List.setIfInBounds_toArray, List.set_cons_zero, List.set_cons_succ]
      refine wpAnyH_take (i := 1) (v := ?_) rfl (by kernel_rfl) (by kernel_rfl) (by kernel_rfl) (fun _ _ _ h => h) (Or.inl ⟨by rfl, ?_⟩) hHeld ?_
      rotate_left
      · intro w hSw
        go_simp
        with_reducible rfl
      simp only [Act.put, List.getElem_toArray, List.getElem_cons_zero, List.getElem_cons_succ, List.setIfInBounds_toArray, List.set_cons_zero, List.set_cons_succ]
      refine wpAnyH_take (i := 3) (v := ?_) rfl (by kernel_rfl) (by kernel_rfl) (by kernel_rfl) (fun _ _ _ h => h) (Or.inl ⟨by rfl, ?_⟩) hHeld ?_
      rotate_left
      · intro w hSw
        go_simp
        with_reducible rfl
      simp only [Act.put, List.getElem_toArray, List.getElem_cons_zero, List.getElem_cons_succ, List.setIfInBounds_toArray, List.set_cons_zero, List.set_cons_succ]
      refine wpAnyH_take (i := 4) (v := ?_) rfl (by kernel_rfl) (by kernel_rfl) (by kernel_rfl) (fun _ _ _ h => h) (Or.inl ⟨by rfl, ?_⟩) hHeld ?_
      rotate_left
      · intro w hSw
        go_simp
        with_reducible rfl
      simp only [Act.put, List.getElem_toArray, List.getElem_cons_zero, List.getElem_cons_succ, List.setIfInBounds_toArray, List.set_cons_zero, List.set_cons_succ]
      refine wpAnyH_take (i := 5) (v := ?_) rfl (by kernel_rfl) (by kernel_rfl) (by kernel_rfl) (fun _ _ _ h => h) (Or.inl ⟨by rfl, ?_⟩) hHeld ?_
      rotate_left
      · intro w hSw
        go_simp
        with_reducible rfl
      simp only [Act.put, List.getElem_toArray, List.getElem_cons_zero, List.getElem_cons_succ, List.setIfInBounds_toArray, List.set_cons_zero, List.set_cons_succ]
      refine wpAnyH_take (i := 6) (v := .int .i64 pr) rfl (by kernel_rfl) (by kernel_rfl) (by kernel_rfl) (fun _ _ _ h => h) (yieldsIf_field (by rfl) 59 _ 1 rfl (.agg #[.int .i64 nd.id, .int .i64 pr, .int .i64 (nd.pl 0), .int .i64 (nd.pl 1), .int .i64 (nd.pl 2), .int .i64 (nd.pl 3), .int .i64 (nd.pl 4), .int .i64 (nd.pl 5), .int .i64 (nd.pl 6), .int .i64 (nd.pl 7), .int .i64 (nd.pl 8), .int .i64 (nd.pl 9), .int .i64 (nd.pl 10), .int .i64 (nd.pl 11), .bool nd.hid]) _ rfl (fld_par _ _ _ _)) hHeld ?_
      simp only [Act.put, List.getElem_toArray, List.getElem_cons_zero, List.getElem_cons_succ, List.setIfInBounds_toArray, List.set_cons_zero, List.set_cons_succ]
      refine wpAnyH_take (i := 7) (v := ?_) rfl (by kernel_rfl) (by kernel_rfl) (by kernel_rfl) (fun _ _ _ h => h) (Or.inl ⟨by rfl, ?_⟩) hHeld ?_
      rotate_left
      · intro w hSw
        go_simp
        with_reducible rfl
      simp only [Act.put, List.getElem_toArray, List.getElem_cons_zero, List.getElem_cons_succ, List.setIfInBounds_toArray, List.set_cons_zero, List.set_cons_succ]
      refine wpAnyH_ready (rs := [2]) (by kernel_rfl) (by simp) ?_
      refine AllReadyH.cons rfl (fun K hK => ?_) AllReadyH.nil
      go_simp
      go_at_call 60
      refine (HPz.out _ (below_drew9f wr)).mono ?_
      rintro e w9 ⟨rfl, rfl⟩
      go_wp2_with fail
      refine hK.out _ _ (HLz.out _ (below_drew9f wr)) (fun hHeld => ?_)
      clear hK K
      refine wpAnyH_take (i := 8) (v := ?_) rfl (by kernel_rfl) (by kernel_rfl) (by kernel_rfl) (fun _ _ _ h => h) (Or.inl ⟨by rfl, ?_⟩) hHeld ?_
      rotate_left
      · intro w hSw
        go_simp
        with_reducible rfl
      simp only [Act.put, List.getElem_toArray, List.getElem_cons_zero, List.getElem_cons_succ, List.setIfInBounds_toArray, List.set_cons_zero, List.set_cons_succ]
      refine wpAnyH_take (i := 9) (v := ?_) rfl (by kernel_rfl) (by kernel_rfl) (by kernel_rfl) (fun _ _ _ h => h) (Or.inl ⟨by rfl, ?_⟩) hHeld ?_
      rotate_left
      · intro w hSw
        go_simp
        with_reducible rfl
      simp only [Act.put, List.getElem_toArray, List.getElem_cons_zero, List.getElem_cons_succ, List.setIfInBounds_toArray, List.set_cons_zero, List.set_cons_succ]
      refine wpAnyH_done (by kernel_rfl) ?_ _
      refine fin (fun W => OwnL W w.heap.size u6 (toL T m (K.take j)) ∧ OwnL W w.heap.size u7 (fromL T m (K.take j)) ∧ Below w.heap.size w W) ⟨HO1.out.keep (below_drew9f wr), HO2.out.keep (below_drew9f wr), bthen HB.out (below_drew9f wr)⟩ ?_
      clear HO1 HO2 HB hbl cz HPz HLz hmx HWn
      rintro W ⟨h1, h2, hb⟩
      have HO1 := Lib.hid h1
      have HO2 := Lib.hid h2
      have HB := Lib.hid hb
      have hsz : w.heap.size ≤ W.heap.size := hb.size
      clear h1 h2 hb hszj
      by_cases hne : hd = wv
      · have HS1 : Hid (toL T m (K.take (j + 1)) = toL T m (K.take j) ∧ fromL T m (K.take (j + 1)) = fromL T m (K.take j)) := Lib.hid (by
          have := HSt.out
          rw [if_pos hne, if_pos hne, List.append_nil, List.append_nil] at this
          exact this)
        have hneb : (hd != wv) = false := by simpa using hne
        go_wp2
        go_roundw
        case rel => exact ⟨j + 1, by omega, by go_num, by rw [HS1.out.1]; exact HO1.out, by rw [HS1.out.2]; exact HO2.out, HNe.out, HB.out⟩
        case measure => simp [ivl] <;> omega
      · have HS1 : Hid (toL T m (K.take (j + 1)) = toL T m (K.take j) ++ [(z, wv)] ∧ fromL T m (K.take (j + 1)) = fromL T m (K.take j) ++ [(z, hd)]) := Lib.hid (by
          have := HSt.out
          rw [if_neg hne, if_neg hne] at this
          exact this)
        have hneb : (hd != wv) = true := by simpa using hne
        have hl1 := (HLn.out j).1
        have hl2 := (HLn.out j).2
        go_wp2_with (first
          | refine wpList_bs8 rfl 92 121 (.tmp 32) rfl [.int .i64 z, .int .i64 wv] rfl (bs_link z wv) ?_
          | (at_builtin; refine wpList_pushX rfl (.tmp 29) (.tmp 33) 92 16 (.agg #[.int .i64 0, .int .i64 0]) rfl Tryz.underlying92 zL_info rfl (by decide) (by decide) cLk_len (z, wv) (cLk_one _) rfl (HO1.out.keep (alloc_below _ _)) W.heap.size 1 rfl (blk_whole (X := cLk (z, wv)) (Blk.new W _ _)) (by omega) (by simp; omega) ?_))
        intro v6' W2 k1 k2 k3
        have hal : Below W.heap.size W (W.alloc (.cells ([.int .i64 z, .int .i64 wv] : List Value).toArray 121)) := alloc_below _ _
        have HA : Hid (OwnL W2 w.heap.size v6' (toL T m (K.take (j + 1))) ∧ OwnL W2 w.heap.size u7 (fromL T m (K.take j)) ∧ (∀ b, v6'.ownBlock = some b → u7.ownBlock ≠ some b) ∧ Below w.heap.size w W2) := Lib.hid (by
          have h7 := HO2.out.keep hal
          refine ⟨by rw [HS1.out.1]; exact k1, h7.same (fun b e => k2.block b (h7.lt b e).2 (fun q => HNe.out b q.symm e)), fun b e q => ?_, ?_⟩
          · rcases k3 with c | c
            · exact HNe.out b (c ▸ e) q
            · rw [c] at e
              injection e with e
              have := (HO2.out.lt b q).2
              try simp at e
              omega
          · have hb1 := bthen HB.out hal
            exact ⟨k2.os.trans hb1.os, k2.tape.trans hb1.tape, k2.output.trans hb1.output, Nat.le_trans hb1.size k2.size, fun q hq => (k2.block q (Nat.lt_of_lt_of_le hq hb1.size) (fun e => by have := ((HO1.out.keep hal).lt _ e.symm).1; omega)).trans (hb1.block q hq)⟩)
        clear k1 k2 k3 hal HO1 HO2 HNe HB hsz
        refine fin (fun W => OwnL W w.heap.size v6' (toL T m (K.take (j + 1))) ∧ OwnL W w.heap.size u7 (fromL T m (K.take j)) ∧ (∀ b, v6'.ownBlock = some b → u7.ownBlock ≠ some b) ∧ Below w.heap.size w W) HA.out ?_
        clear HA
        rintro W3 ⟨h1, h2, h3, hb⟩
        have HO1 := Lib.hid h1
        have HO2 := Lib.hid h2
        have HNe := Lib.hid h3
        have HB := Lib.hid hb
        have hsz : w.heap.size ≤ W3.heap.size := hb.size
        clear h1 h2 h3 hb
        go_wp2_with (first
          | refine wpList_bs8 rfl 92 121 (.tmp 38) rfl [.int .i64 z, .int .i64 hd] rfl (bs_link z hd) ?_
          | (at_builtin; refine wpList_pushX rfl (.tmp 35) (.tmp 39) 92 16 (.agg #[.int .i64 0, .int .i64 0]) rfl Tryz.underlying92 zL_info rfl (by decide) (by decide) cLk_len (z, hd) (cLk_one _) rfl (HO2.out.keep (alloc_below _ _)) W3.heap.size 1 rfl (blk_whole (X := cLk (z, hd)) (Blk.new W3 _ _)) (by omega) (by simp; omega) ?_))
        intro v7' W4 k1 k2 k3
        have hal : Below W3.heap.size W3 (W3.alloc (.cells ([.int .i64 z, .int .i64 hd] : List Value).toArray 121)) := alloc_below _ _
        have HA : Hid (OwnL W4 w.heap.size v6' (toL T m (K.take (j + 1))) ∧ OwnL W4 w.heap.size v7' (fromL T m (K.take (j + 1))) ∧ (∀ b, v6'.ownBlock = some b → v7'.ownBlock ≠ some b) ∧ Below w.heap.size w W4) := Lib.hid (by
          have h6 := HO1.out.keep hal
          refine ⟨h6.same (fun b e => k2.block b (h6.lt b e).2 (fun q => HNe.out b e q.symm)), by rw [HS1.out.2]; exact k1, fun b e q => ?_, ?_⟩
          · rcases k3 with c | c
            · exact HNe.out b e (c ▸ q)
            · rw [c] at q
              injection q with q
              have := (HO1.out.lt b e).2
              try simp at q
              omega
          · have hb1 := bthen HB.out hal
            exact ⟨k2.os.trans hb1.os, k2.tape.trans hb1.tape, k2.output.trans hb1.output, Nat.le_trans hb1.size k2.size, fun q hq => (k2.block q (Nat.lt_of_lt_of_le hq hb1.size) (fun e => by have := ((HO2.out.keep hal).lt _ e.symm).1; omega)).trans (hb1.block q hq)⟩)
        clear k1 k2 k3 hal HO1 HO2 HNe HB hsz
        go_wp2
        go_roundw
        case rel => exact ⟨j + 1, by omega, by go_num, HA.out⟩
        case measure => simp [ivl] <;> omega
    · obtain rfl : j = n := by omega
      have e0 : K.take j = K := List.take_of_length_le (by rw [HLen.out]; exact Nat.le_refl _)
      rw [e0] at HO1 HO2
      have j1 : ¬ (j : Int) < (j : Int) := by omega
      clear e0 hrw
      go_wp2
      go_ret2
      exact ⟨_, _, rfl, HO1.out, HO2.out, HB.out⟩
end
end Go.Proofs.YtdndafdninnjfaaGreat
