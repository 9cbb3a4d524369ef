/-
  4 texts in one file, each with its own heading.
-/
import Derived.Test.YthhfcedhbfandaaGreatMS43
/-
  The landed flow: move, moves.
-/
namespace Go.Proofs.YthhfcedhbfandaaGreat
open Go.RowKit

theorem tie_wf : ∀ (X : List LK) {T : FT}, WF T → WF (tieG T X).1
  | [], _, h => h
  | lk :: r, T, h => by
    unfold tieG
    by_cases c : lk.2 < 0
    · rw [if_pos c]; exact tie_wf r h
    · rw [if_neg c]
      by_cases d : fsetE T lk.1 lk.2 = 0
      · rw [if_pos d]
        have := h.set9 lk.1 lk.2
        unfold setS9 at this
        rw [if_pos d] at this
        exact tie_wf r this
      · rw [if_neg d]; exact h
theorem tie_len : ∀ (X : List LK) (T : FT), (tieG T X).1.length ≤ T.length + X.length
  | [], T => Nat.le_refl _
  | lk :: r, T => by
    unfold tieG
    by_cases c : lk.2 < 0
    · rw [if_pos c]
      have := tie_len r T
      rw [List.length_cons]; omega
    · rw [if_neg c]
      by_cases d : fsetE T lk.1 lk.2 = 0
      · rw [if_pos d]
        have := tie_len r (setF T lk.1 lk.2)
        have := setF_len T lk.1 lk.2
        rw [List.length_cons]; omega
      · rw [if_neg d]
        show T.length ≤ _
        omega
def movT (T : FT) (X Y : List LK) : FT := if (tieG (freeS T (X.map Prod.fst)) X).2 = 0 then (tieG (freeS T (X.map Prod.fst)) X).1 else (tieG (freeS (tieG (freeS T (X.map Prod.fst)) X).1 (Y.map Prod.fst)) Y).1
section
variable {w : World} {p : Wp}
set_option maxHeartbeats 2000000 in
set_option maxRecDepth 100000 in
theorem lfmove_any (h : LW w p) (hW : WF p.T) {a b : Option Addr} {n m cap cap' : Nat} {X Y : List LK} (row : RowX 2 cLk w a n X) (ha : AwX (footL p) a n) (hX : ∀ k ∈ X, Rg k.1 ∧ Rg k.2) (row2 : RowX 2 cLk w b m Y) (ha2 : AwX (footL p) b m) (hY : ∀ k ∈ Y, Rg k.1 ∧ Rg k.2) (hin : ∀ ad, b = some ad → m = 0 ∨ ad.block < w.heap.size) (hlen : p.T.length + n + m ≤ 1000) :
    Calls Tryz.prog 126 #[.pointer (some ⟨p.g, 0, none⟩), .slice a n cap, .slice b m cap'] w fun e w' => e = .returned (.int .i64 (tieG (freeS p.T (X.map Prod.fst)) X).2) ∧ ∃ Ff, ChL w w' p (wT p (movT p.T X Y) Ff) := by
  have hxl := row.1
  have H1 := Lib.hid (lftie_any (cap := cap) h hW row ha hX (by omega))
  have H2 : Hid (∀ u Ff, ChL w u p (wT p (tieG (freeS p.T (X.map Prod.fst)) X).1 Ff) → Calls Tryz.prog 192 #[.pointer (some ⟨p.g, 0, none⟩), .slice b m cap'] u fun e w' => ∃ z, e = .returned (.int .i64 z) ∧ ∃ Ff, ChL w w' p (wT p (tieG (freeS (tieG (freeS p.T (X.map Prod.fst)) X).1 (Y.map Prod.fst)) Y).1 Ff)) := Lib.hid (fun u Ff k => by
    refine (lftie_any (cap := cap') k.1 (tie_wf X (WF.frees _ hW)) (rowx_frame row2 ha2 k.2.1) ?_ hY ?_).mono ?_
    · rcases ha2 with c | c
      · exact Or.inl c
      · by_cases hm : m = 0
        · exact Or.inl hm
        · refine Or.inr (fun ad e hf => ?_)
          rcases k.2.2 ad.block hf with d | d
          · exact c ad e d
          · rcases hin ad e with q | q
            · exact hm q
            · omega
    · show (tieG (freeS p.T (X.map Prod.fst)) X).1.length + m ≤ 1000
      have := tie_len X (freeS p.T (X.map Prod.fst))
      have := frees_len (X.map Prod.fst) p.T
      omega
    · rintro e w' ⟨rfl, Ff', hc⟩
      exact ⟨_, rfl, Ff', k.join hc⟩)
  have hmv : movT p.T X Y = if (tieG (freeS p.T (X.map Prod.fst)) X).2 = 0 then (tieG (freeS p.T (X.map Prod.fst)) X).1 else (tieG (freeS (tieG (freeS p.T (X.map Prod.fst)) X).1 (Y.map Prod.fst)) Y).1 := rfl
  obtain ⟨R, hR⟩ : ∃ R, R = tieG (freeS p.T (X.map Prod.fst)) X := ⟨_, rfl⟩
  obtain ⟨R2, hR2⟩ : ∃ R2, R2 = (tieG (freeS R.1 (Y.map Prod.fst)) Y).1 := ⟨_, rfl⟩
  rw [← hR] at H1 H2 hmv ⊢
  rw [← hR2] at H2 hmv
  have HMv := Lib.hid hmv
  obtain ⟨E, hE⟩ : ∃ E, E = R.2 := ⟨_, rfl⟩
  rw [← hE] at H1 HMv ⊢
  clear h hW row ha hX row2 ha2 hY hin hR hR2 hE hmv
  go_enter Tryz.func126, Tryz.ntmps126
  go_wp2_with fail
  refine H1.out.mono ?_
  rintro e w1 ⟨rfl, Ff, hc⟩
  have HC := Lib.hid hc
  have H3 := Lib.hid (H2.out w1 Ff hc)
  clear hc H1 H2
  by_cases hE0 : E = 0
  · have HM0 : Hid (movT p.T X Y = R.1) := Lib.hid (by rw [HMv.out, if_pos hE0])
    clear H3 HMv
    subst hE0
    go_wp2
    go_ret
    exact ⟨rfl, Ff, by rw [HM0.out]; exact HC.out⟩
  · go_wp2_with fail
    refine H3.out.mono ?_
    rintro e w2 ⟨z, rfl, Ff', hc⟩
    have HC2 := Lib.hid hc
    clear hc H3
    go_wp2
    go_ret
    exact ⟨rfl, Ff', by rw [HMv.out, if_neg hE0]; exact HC2.out⟩
end
def wnt (m : Int → Option Nd) (x : Int) : Int := if ((m x).getD zNd).par < -1 then -1 else ((m x).getD zNd).par
def toL (T : FT) (m : Int → Option Nd) (K : List Int) : List LK := K.filterMap (fun x => if parM T x = wnt m x then none else some (x, wnt m x))
def fromL (T : FT) (m : Int → Option Nd) (K : List Int) : List LK := K.filterMap (fun x => if parM T x = wnt m x then none else some (x, parM T x))
theorem fm_step {f : Int → Option LK} {K : List Int} {j : Nat} {z : Int} (h : K[j]? = some z) : (K.take (j + 1)).filterMap f = (K.take j).filterMap f ++ (f z).toList := by
  rw [List.take_add_one, h, List.filterMap_append]
  cases q : f z <;> simp [q]
theorem fm_len (f : Int → Option LK) (K : List Int) (j : Nat) : ((K.take j).filterMap f).length ≤ K.length := by
  have h1 := List.length_filterMap_le f (K.take j)
  rw [List.length_take] at h1
  omega
theorem cLk_len (x : LK) : (cLk x).length = 2 := rfl
theorem cLk_one (x : LK) : ∀ u ∈ cLk x, u.oneCell' = true := fun u hu => by
  unfold cLk at hu
  simp only [List.mem_cons, List.not_mem_nil, or_false] at hu
  rcases hu with h | h <;> (rw [h]; rfl)
theorem zL_info : (Tryz.prog.info? 283).map (fun i => (i.zero, i.size, i.bytes)) = some (some (.agg #[.int .i64 0, .int .i64 0]), 2, 16) := by kernel_rfl
theorem yieldsIf_field {ops : Array Oper} {S : World → Prop} {op : Oper} {a : Go.Act} (hw : Region.wanted op (yielded ops a.tmps) = true) (t : TypeId) (x : Operand) (k : Nat) (ho : op.op = .field t x k) (vx vr : Value) (hx : a.eval x = vx)
    (hrun : ∀ W, (Instr.field t vx k).run Tryz.prog W = .ok vr W) : YieldsIf Tryz.prog ops S op vr a :=
  .inl ⟨hw, fun w _ => by
    unfold execOp
    simp only [ho]
    simp [hx, hrun]⟩
theorem fld_par (a b : Int) (M : Nat → Int) (h : Bool) (W : World) : (Instr.field 205 (.agg #[.int .i64 a, .int .i64 b, .int .i64 (M 0), .int .i64 (M 1), .int .i64 (M 2), .int .i64 (M 3), .int .i64 (M 4), .int .i64 (M 5), .int .i64 (M 6), .int .i64 (M 7), .int .i64 (M 8), .int .i64 (M 9), .int .i64 (M 10), .int .i64 (M 11), .bool h]) 1).run Tryz.prog W = .ok (.int .i64 b) W := by kernel_rfl
theorem bs_link (x y : Int) (W : World) : (Instr.buildSlice 210 1 #[(0, .agg ([.int .i64 x, .int .i64 y] : List Value).toArray)]).run Tryz.prog W = .ok (.slice (some ⟨W.heap.size, 0, none⟩) 1 1) (W.alloc (.cells ([.int .i64 x, .int .i64 y] : List Value).toArray 283)) := by kernel_rfl
abbrev OwnL := OwnX 2 cLk 283
section
variable {w : World} {p : Wp}
set_option maxHeartbeats 4000000 in
set_option maxRecDepth 100000 in
theorem lfmoves_any (h : LW w p) {gl : Nat} {m : Int → Option Nd} (hm : MF nK w gl m) {a : Option Addr} {n cap : Nat} {K : List Int} (row : Row w a n K) (hn : n ≤ 1000) (hK : Rgs K) :
    Calls Tryz.prog 125 #[.pointer (some ⟨p.g, 0, none⟩), .slice a n cap, .map (some gl)] w fun e w' => ∃ v1 v2, e = .returned (.tuple #[v1, v2]) ∧ OwnL w' w.heap.size v1 (toL p.T m K) ∧ OwnL w' w.heap.size v2 (fromL p.T m K) ∧ Below w.heap.size w w' := by
  have hbig := row.2.1
  have HLen := Lib.hid row.1
  have HRow : Hid (∀ u, Below w.heap.size w u → Row u a n K) := Lib.hid (fun u q => row_keep row q)
  have HPa : Hid (∀ u z, Below w.heap.size w u → Rg z → Calls Tryz.prog 191 #[.pointer (some ⟨p.g, 0, none⟩), .int .i64 z] u fun e w' => e = .returned (.int .i64 (parM p.T z)) ∧ u = w') := Lib.hid (fun u z q hz => lfparent_any (h.keep q) hz)
  have HLk : Hid (∀ u z, Below w.heap.size w u → Rg z → (Instr.lookup 204 (.map (some gl)) (.int .i64 z) false).run Tryz.prog u = .ok (.agg #[.int .i64 ((m z).getD zNd).id, .int .i64 ((m z).getD zNd).par, .int .i64 (((m z).getD zNd).pl 0), .int .i64 (((m z).getD zNd).pl 1), .int .i64 (((m z).getD zNd).pl 2), .int .i64 (((m z).getD zNd).pl 3), .int .i64 (((m z).getD zNd).pl 4), .int .i64 (((m z).getD zNd).pl 5), .int .i64 (((m z).getD zNd).pl 6), .int .i64 (((m z).getD zNd).pl 7), .int .i64 (((m z).getD zNd).pl 8), .int .i64 (((m z).getD zNd).pl 9), .int .i64 (((m z).getD zNd).pl 10), .int .i64 (((m z).getD zNd).pl 11), .bool ((m z).getD zNd).hid]) u) := Lib.hid (fun u z q hz => (hm.keep q).get hz)
  have HKr := Lib.hid hK
  have HTo : Hid (∀ j z, K[j]? = some z → toL p.T m (K.take (j + 1)) = toL p.T m (K.take j) ++ (if parM p.T z = wnt m z then [] else [(z, wnt m z)]) ∧ fromL p.T m (K.take (j + 1)) = fromL p.T m (K.take j) ++ (if parM p.T z = wnt m z then [] else [(z, parM p.T z)])) := Lib.hid (fun j z hz => by
    unfold toL fromL
    rw [fm_step hz, fm_step hz]
    by_cases c : parM p.T z = wnt m z
    · simp only [if_pos c]; exact ⟨rfl, rfl⟩
    · simp only [if_neg c]; exact ⟨rfl, rfl⟩)
  have HLn : Hid (∀ j, (toL p.T m (K.take j)).length ≤ n ∧ (fromL p.T m (K.take j)).length ≤ n) := Lib.hid (fun j => by
    rw [← row.1]
    exact ⟨fm_len _ K j, fm_len _ K j⟩)
  obtain ⟨g, hge⟩ : ∃ g, g = p.g := ⟨_, rfl⟩
  obtain ⟨T, hT⟩ : ∃ T, T = p.T := ⟨_, rfl⟩
  rw [← hge] at HPa ⊢
  rw [← hT] at HPa HTo HLn ⊢
  clear h hm row hK hge hT
  go_enter Tryz.func125, Tryz.ntmps125
  go_wp2
  go_loopw [6, 7, 9, 10, 11, 14] (fun v6 v7 _ _ _ i wr => ∃ j : Nat, j ≤ n ∧ i = .int .i64 j ∧ OwnL wr w.heap.size v6 (toL T m (K.take j)) ∧ OwnL wr w.heap.size v7 (fromL T m (K.take j)) ∧ (∀ b, v6.ownBlock = some b → v7.ownBlock ≠ some b) ∧ Below w.heap.size w wr) (fun _ _ _ _ _ i _ => n - (ivl i).toNat)
  case atStart => exact ⟨0, by omega, rfl, OwnX.nil _ _ _ _ _, OwnX.nil _ _ _ _ _, fun b e => (by cases e), Below.refl _ _⟩
  case round =>
    obtain ⟨j, hj, rfl, h1, h2, h3, hb⟩ := hrel
    have HO1 := Lib.hid h1
    have HO2 := Lib.hid h2
    have HNe := Lib.hid h3
    have HB := Lib.hid hb
    have hrw := HRow.out wr hb
    have hszj : w.heap.size ≤ wr.heap.size := hb.size
    clear h1 h2 h3 hb
    by_cases hlt : j < n
    · obtain ⟨b, off, z, rfl, hz, cz⟩ := row_at hrw hlt
      have hbl := World.block_lt_of_cell? _ _ cz
      have hzr := HKr.out z (List.mem_of_getElem? hz)
      have HSt := Lib.hid (HTo.out j z hz)
      have HPz : Hid (∀ u, Below wr.heap.size wr u → Calls Tryz.prog 191 #[.pointer (some ⟨g, 0, none⟩), .int .i64 z] u fun e w' => e = .returned (.int .i64 (parM T z)) ∧ u = w') := Lib.hid (fun u q => HPa.out _ z (bthen HB.out q) hzr)
      have HLz : Hid (∀ u, Below wr.heap.size wr u → (Instr.lookup 204 (.map (some gl)) (.int .i64 z) false).run Tryz.prog u = .ok (.agg #[.int .i64 ((m z).getD zNd).id, .int .i64 ((m z).getD zNd).par, .int .i64 (((m z).getD zNd).pl 0), .int .i64 (((m z).getD zNd).pl 1), .int .i64 (((m z).getD zNd).pl 2), .int .i64 (((m z).getD zNd).pl 3), .int .i64 (((m z).getD zNd).pl 4), .int .i64 (((m z).getD zNd).pl 5), .int .i64 (((m z).getD zNd).pl 6), .int .i64 (((m z).getD zNd).pl 7), .int .i64 (((m z).getD zNd).pl 8), .int .i64 (((m z).getD zNd).pl 9), .int .i64 (((m z).getD zNd).pl 10), .int .i64 (((m z).getD zNd).pl 11), .bool ((m z).getD zNd).hid]) u) := Lib.hid (fun u q => HLk.out _ z (bthen HB.out q) hzr)
      have hwn : wnt m z = if ((m z).getD zNd).par < -1 then -1 else ((m z).getD zNd).par := rfl
      obtain ⟨nd, hnd⟩ : ∃ nd, nd = (m z).getD zNd := ⟨_, rfl⟩
      rw [← hnd] at HLz hwn
      obtain ⟨pr, hpr⟩ : ∃ pr, pr = nd.par := ⟨_, rfl⟩
      rw [← hpr] at HLz hwn
      obtain ⟨hd, hhd⟩ : ∃ hd, hd = parM T z := ⟨_, rfl⟩
      obtain ⟨wv, hwv⟩ : ∃ wv, wv = wnt m z := ⟨_, rfl⟩
      rw [← hhd] at HPz HSt
      rw [← hwv] at HSt hwn
      have HWn := Lib.hid hwn
      have j0 : (0 : Int) ≤ (j : Int) := by omega
      have j1 : (j : Int) < (n : Int) := by omega
      clear hrw hz hzr hnd hpr hhd hwv hwn
      go_wp2
      have hmx : max pr (-1) = wv := by rw [HWn.out]; split <;> omega
      refine wp_region_held_drew (S := fun w' => (Instr.lookup 204 (.map (some gl)) (.int .i64 z) false).run Tryz.prog w' = .ok (.agg #[.int .i64 nd.id, .int .i64 pr, .int .i64 (nd.pl 0), .int .i64 (nd.pl 1), .int .i64 (nd.pl 2), .int .i64 (nd.pl 3), .int .i64 (nd.pl 4), .int .i64 (nd.pl 5), .int .i64 (nd.pl 6), .int .i64 (nd.pl 7), .int .i64 (nd.pl 8), .int .i64 (nd.pl 9), .int .i64 (nd.pl 10), .int .i64 (nd.pl 11), .bool nd.hid]) w') (by kernel_rfl) (HLz.out _ (below_drew9f wr)) (fun hHeld => ?_)
      refine tk 0 hHeld ?_
      refine tk 1 hHeld ?_
      refine tk 3 hHeld ?_
      refine tk 4 hHeld ?_
      refine tk 5 hHeld ?_
      refine wpAnyH_take (i := 6) (v := .int .i64 pr) rfl (by kernel_rfl) (by kernel_rfl) (by kernel_rfl) (fun _ _ _ h => h) (yieldsIf_field (by rfl) 205 _ 1 rfl (.agg #[.int .i64 nd.id, .int .i64 pr, .int .i64 (nd.pl 0), .int .i64 (nd.pl 1), .int .i64 (nd.pl 2), .int .i64 (nd.pl 3), .int .i64 (nd.pl 4), .int .i64 (nd.pl 5), .int .i64 (nd.pl 6), .int .i64 (nd.pl 7), .int .i64 (nd.pl 8), .int .i64 (nd.pl 9), .int .i64 (nd.pl 10), .int .i64 (nd.pl 11), .bool nd.hid]) _ rfl (fld_par _ _ _ _)) hHeld ?_
      simp only [Act.put, List.getElem_toArray, List.getElem_cons_zero, List.getElem_cons_succ, List.setIfInBounds_toArray, List.set_cons_zero, List.set_cons_succ]
      refine tk 7 hHeld ?_
      refine rd 2 (fun K hK => ?_)
      go_simp
      go_at_call 191
      refine (HPz.out _ (below_drew9f wr)).mono ?_
      rintro e w9 ⟨rfl, rfl⟩
      go_wp2_with fail
      refine hK.out _ _ (HLz.out _ (below_drew9f wr)) (fun hHeld => ?_)
      clear hK K
      refine tk 8 hHeld ?_
      refine tk 9 hHeld ?_
      refine wpAnyH_done (by kernel_rfl) ?_ _
      refine fin (fun W => OwnL W w.heap.size u6 (toL T m (K.take j)) ∧ OwnL W w.heap.size u7 (fromL T m (K.take j)) ∧ Below w.heap.size w W) ⟨HO1.out.keep (below_drew9f wr), HO2.out.keep (below_drew9f wr), bthen HB.out (below_drew9f wr)⟩ ?_
      clear HO1 HO2 HB hbl cz HPz HLz hmx HWn
      rintro W ⟨h1, h2, hb⟩
      have HO1 := Lib.hid h1
      have HO2 := Lib.hid h2
      have HB := Lib.hid hb
      have hsz : w.heap.size ≤ W.heap.size := hb.size
      clear h1 h2 hb hszj
      by_cases hne : hd = wv
      · have HS1 : Hid (toL T m (K.take (j + 1)) = toL T m (K.take j) ∧ fromL T m (K.take (j + 1)) = fromL T m (K.take j)) := Lib.hid (by
          have := HSt.out
          rw [if_pos hne, if_pos hne, List.append_nil, List.append_nil] at this
          exact this)
        have hneb : (hd != wv) = false := by simpa using hne
        go_wp2
        go_roundw
        case rel => exact ⟨j + 1, by omega, by go_num, by rw [HS1.out.1]; exact HO1.out, by rw [HS1.out.2]; exact HO2.out, HNe.out, HB.out⟩
        case measure => simp [ivl] <;> omega
      · have HS1 : Hid (toL T m (K.take (j + 1)) = toL T m (K.take j) ++ [(z, wv)] ∧ fromL T m (K.take (j + 1)) = fromL T m (K.take j) ++ [(z, hd)]) := Lib.hid (by
          have := HSt.out
          rw [if_neg hne, if_neg hne] at this
          exact this)
        have hneb : (hd != wv) = true := by simpa using hne
        have hl1 := (HLn.out j).1
        have hl2 := (HLn.out j).2
        go_wp2_with (first
          | refine wpList_bs8 rfl 210 283 (.tmp 32) rfl [.int .i64 z, .int .i64 wv] rfl (bs_link z wv) ?_
          | (at_builtin; refine wpList_pushX rfl (.tmp 29) (.tmp 33) 210 16 (.agg #[.int .i64 0, .int .i64 0]) rfl Tryz.underlying210 zL_info rfl (by decide) (by decide) cLk_len (z, wv) (cLk_one _) rfl (HO1.out.keep (alloc_below _ _)) W.heap.size 1 rfl (blk_whole (X := cLk (z, wv)) (Blk.new W _ _)) (by omega) (by simp; omega) ?_))
        intro v6' W2 k1 k2 k3
        have hal : Below W.heap.size W (W.alloc (.cells ([.int .i64 z, .int .i64 wv] : List Value).toArray 283)) := alloc_below _ _
        have HA : Hid (OwnL W2 w.heap.size v6' (toL T m (K.take (j + 1))) ∧ OwnL W2 w.heap.size u7 (fromL T m (K.take j)) ∧ (∀ b, v6'.ownBlock = some b → u7.ownBlock ≠ some b) ∧ Below w.heap.size w W2) := Lib.hid (by
          have h7 := HO2.out.keep hal
          refine ⟨by rw [HS1.out.1]; exact k1, h7.same (fun b e => k2.block b (h7.lt b e).2 (fun q => HNe.out b q.symm e)), fun b e q => ?_, ?_⟩
          · rcases k3 with c | c
            · exact HNe.out b (c ▸ e) q
            · rw [c] at e
              injection e with e
              have := (HO2.out.lt b q).2
              try simp at e
              omega
          · have hb1 := bthen HB.out hal
            exact ⟨k2.os.trans hb1.os, k2.tape.trans hb1.tape, k2.output.trans hb1.output, Nat.le_trans hb1.size k2.size, fun q hq => (k2.block q (Nat.lt_of_lt_of_le hq hb1.size) (fun e => by have := ((HO1.out.keep hal).lt _ e.symm).1; omega)).trans (hb1.block q hq)⟩)
        clear k1 k2 k3 hal HO1 HO2 HNe HB hsz
        refine fin (fun W => OwnL W w.heap.size v6' (toL T m (K.take (j + 1))) ∧ OwnL W w.heap.size u7 (fromL T m (K.take j)) ∧ (∀ b, v6'.ownBlock = some b → u7.ownBlock ≠ some b) ∧ Below w.heap.size w W) HA.out ?_
        clear HA
        rintro W3 ⟨h1, h2, h3, hb⟩
        have HO1 := Lib.hid h1
        have HO2 := Lib.hid h2
        have HNe := Lib.hid h3
        have HB := Lib.hid hb
        have hsz : w.heap.size ≤ W3.heap.size := hb.size
        clear h1 h2 h3 hb
        go_wp2_with (first
          | refine wpList_bs8 rfl 210 283 (.tmp 38) rfl [.int .i64 z, .int .i64 hd] rfl (bs_link z hd) ?_
          | (at_builtin; refine wpList_pushX rfl (.tmp 35) (.tmp 39) 210 16 (.agg #[.int .i64 0, .int .i64 0]) rfl Tryz.underlying210 zL_info rfl (by decide) (by decide) cLk_len (z, hd) (cLk_one _) rfl (HO2.out.keep (alloc_below _ _)) W3.heap.size 1 rfl (blk_whole (X := cLk (z, hd)) (Blk.new W3 _ _)) (by omega) (by simp; omega) ?_))
        intro v7' W4 k1 k2 k3
        have hal : Below W3.heap.size W3 (W3.alloc (.cells ([.int .i64 z, .int .i64 hd] : List Value).toArray 283)) := alloc_below _ _
        have HA : Hid (OwnL W4 w.heap.size v6' (toL T m (K.take (j + 1))) ∧ OwnL W4 w.heap.size v7' (fromL T m (K.take (j + 1))) ∧ (∀ b, v6'.ownBlock = some b → v7'.ownBlock ≠ some b) ∧ Below w.heap.size w W4) := Lib.hid (by
          have h6 := HO1.out.keep hal
          refine ⟨h6.same (fun b e => k2.block b (h6.lt b e).2 (fun q => HNe.out b e q.symm)), by rw [HS1.out.2]; exact k1, fun b e q => ?_, ?_⟩
          · rcases k3 with c | c
            · exact HNe.out b e (c ▸ q)
            · rw [c] at q
              injection q with q
              have := (HO1.out.lt b e).2
              try simp at q
              omega
          · have hb1 := bthen HB.out hal
            exact ⟨k2.os.trans hb1.os, k2.tape.trans hb1.tape, k2.output.trans hb1.output, Nat.le_trans hb1.size k2.size, fun q hq => (k2.block q (Nat.lt_of_lt_of_le hq hb1.size) (fun e => by have := ((HO2.out.keep hal).lt _ e.symm).1; omega)).trans (hb1.block q hq)⟩)
        clear k1 k2 k3 hal HO1 HO2 HNe HB hsz
        go_wp2
        go_roundw
        case rel => exact ⟨j + 1, by omega, by go_num, HA.out⟩
        case measure => simp [ivl] <;> omega
    · obtain rfl : j = n := by omega
      have e0 : K.take j = K := List.take_of_length_le (by rw [HLen.out]; exact Nat.le_refl _)
      rw [e0] at HO1 HO2
      have j1 : ¬ (j : Int) < (j : Int) := by omega
      clear e0 hrw
      go_wp2
      go_ret2
      exact ⟨_, _, rfl, HO1.out, HO2.out, HB.out⟩
end
def updF (m : Int → Option Nd) (l : List Nd) : Int → Option Nd := l.foldl (fun m n => upm m n.id (some n)) m
def lastF (l : List Nd) : Int → Option Nd := updF (fun _ => none) l
theorem upd_or : ∀ (l : List Nd) (m : Int → Option Nd) (x : Int), updF m l x = (lastF l x).or (m x)
  | [], m, x => rfl
  | n :: l, m, x => by
    have h1 := upd_or l (upm m n.id (some n)) x
    have h2 := upd_or l (upm (fun _ => none) n.id (some n)) x
    show updF (upm m n.id (some n)) l x = (updF (upm (fun _ => none) n.id (some n)) l x).or (m x)
    rw [h1, h2]
    unfold upm
    by_cases c : x = n.id
    · rw [if_pos c, if_pos c]
      cases lastF l x <;> rfl
    · rw [if_neg c, if_neg c]
      cases lastF l x <;> rfl
theorem last_step {l : List Nd} {j : Nat} {n : Nd} (h : l[j]? = some n) : lastF (l.take (j + 1)) = upm (lastF (l.take j)) n.id (some n) := by
  unfold lastF updF
  rw [List.take_add_one, h, List.foldl_append]
  rfl
theorem el_withN {L : List Nd} (hn : (L.map Nd.id).Nodup) (n : Nd) (x : Int) : elF Nd.id (withN L n) x = upm (elF Nd.id L) n.id (some n) x := by
  unfold upm
  by_cases c : x = n.id
  · rw [if_pos c, c]
    exact el_of_mem (withN_nod hn n) (mem_withN.2 (Or.inr rfl))
  · rw [if_neg c]
    exact el_ext hn (fun m hm => by
      rw [mem_withN]
      exact ⟨fun q => q.elim And.left (fun e => absurd (hm.symm.trans (congrArg Nd.id e)) c), fun q => Or.inl ⟨q, fun e => c (hm.symm.trans e)⟩⟩)
theorem el_withS : ∀ (l : List Nd) {L : List Nd}, (L.map Nd.id).Nodup → ∀ x, elF Nd.id (withS L l) x = (lastF l x).or (elF Nd.id L x)
  | [], L, _, x => rfl
  | n :: l, L, h, x => by
    have ih := el_withS l (withN_nod h n) x
    show elF Nd.id (withS (withN L n) l) x = (updF (upm (fun _ => none) n.id (some n)) l x).or (elF Nd.id L x)
    rw [ih, upd_or, el_withN h]
    unfold upm
    by_cases c : x = n.id
    · rw [if_pos c, if_pos c]
      cases lastF l x <;> rfl
    · rw [if_neg c, if_neg c]
      cases lastF l x <;> rfl
theorem last_id : ∀ {l : List Nd} {x : Int} {n : Nd}, lastF l x = some n → n.id = x ∧ n ∈ l
  | [], x, n, h => by cases h
  | m :: l, x, n, h => by
    have h1 : (lastF l x).or (upm (fun _ => none) m.id (some m) x) = some n := by rw [← upd_or]; exact h
    cases q : lastF l x with
    | some n' =>
      rw [q] at h1
      have e : n' = n := by injection h1
      have := last_id (l := l) q
      rw [e] at this
      exact ⟨this.1, List.mem_cons_of_mem _ this.2⟩
    | none =>
      rw [q] at h1
      unfold upm at h1
      by_cases c : x = m.id
      · have h2 : (if x = m.id then some m else none) = some n := h1
        rw [if_pos c] at h2
        injection h2 with h2
        rw [← h2]
        exact ⟨c.symm, List.mem_cons_self⟩
      · have h2 : (if x = m.id then some m else none) = some n := h1
        rw [if_neg c] at h2
        cases h2
theorem last_mem : ∀ {l : List Nd} {x : Int}, (lastF l x).isSome = true ↔ x ∈ l.map Nd.id
  | [], x => by simp [lastF, updF]
  | m :: l, x => by
    have h1 : lastF (m :: l) x = (lastF l x).or (upm (fun _ => none) m.id (some m) x) := upd_or l _ x
    have ih := last_mem (l := l) (x := x)
    rw [h1, List.map_cons, List.mem_cons, ← ih]
    unfold upm
    cases q : lastF l x with
    | some n => simp
    | none =>
      by_cases c : x = m.id
      · simp [c]
      · simp [c]
def keysN (l : List Nd) : List Int := cmpS (l.map Nd.id)
theorem mem_keys {l : List Nd} {x : Int} : x ∈ keysN l ↔ (lastF l x).isSome = true := by
  unfold keysN
  rw [mem_cmpS, last_mem]
theorem tie_off : ∀ (X : List LK) (T : FT) {x : Int}, x ∉ X.map Prod.fst → parO (tieG T X).1 x = parO T x
  | [], _, _, _ => rfl
  | lk :: r, T, x, h => by
    rw [List.map_cons, List.mem_cons, not_or] at h
    unfold tieG
    by_cases c : lk.2 < 0
    · rw [if_pos c]; exact tie_off r T h.2
    · rw [if_neg c]
      by_cases d : fsetE T lk.1 lk.2 = 0
      · rw [if_pos d, tie_off r _ h.2, par_set, if_neg h.1]
      · rw [if_neg d]
theorem tie_e : ∀ (X : List LK) (T : FT), (tieG T X).2 = 0 ∨ (tieG T X).2 = 8
  | [], _ => Or.inl rfl
  | lk :: r, T => by
    unfold tieG
    by_cases c : lk.2 < 0
    · rw [if_pos c]; exact tie_e r T
    · rw [if_neg c]
      by_cases d : fsetE T lk.1 lk.2 = 0
      · rw [if_pos d]; exact tie_e r _
      · rw [if_neg d]
        refine Or.inr ?_
        show fsetE T lk.1 lk.2 = 8
        unfold fsetE at d ⊢
        split at d
        · rename_i q; rw [if_pos q]
        · exact absurd rfl d
theorem tie_spec : ∀ (X : List LK) {T : FT}, (X.map Prod.fst).Nodup → (∀ c ∈ X.map Prod.fst, parO T c = none) → (tieG T X).2 = 0 → ∀ lk ∈ X, parO (tieG T X).1 lk.1 = if lk.2 < 0 then none else some lk.2
  | [], _, _, _, _, lk, h => by cases h
  | k :: r, T, hn, hf, he, lk, h => by
    rw [List.map_cons, List.nodup_cons] at hn
    unfold tieG at he ⊢
    by_cases c : k.2 < 0
    · rw [if_pos c] at he ⊢
      rcases List.mem_cons.1 h with rfl | h
      · rw [tie_off r T hn.1, hf _ (by simp), if_pos c]
      · exact tie_spec r hn.2 (fun z hz => hf z (List.mem_cons_of_mem _ hz)) he lk h
    · rw [if_neg c] at he ⊢
      by_cases d : fsetE T k.1 k.2 = 0
      · rw [if_pos d] at he ⊢
        rcases List.mem_cons.1 h with rfl | h
        · rw [tie_off r _ hn.1, par_set, if_pos rfl, if_neg c]
        · exact tie_spec r hn.2 (fun z hz => by
            rw [par_set, if_neg (fun e : z = k.1 => hn.1 (e ▸ hz))]
            exact hf z (List.mem_cons_of_mem _ hz)) he lk h
      · rw [if_neg d] at he
        exact absurd he d
theorem abv_sub {T R : FT} (hT : WF T) (hR : WF R) (h : ∀ x y, parO T x = some y → parO R x = some y) {x z : Int} (hz : z ∈ abv T x) : z ∈ abv R x := by
  have key : ∀ (l : List Int) (x : Int), IsA T x l → z ∈ l → z ∈ abv R x := by
    intro l
    induction l with
    | nil => intro x _ q; cases q
    | cons y l ih =>
      intro x hx q
      rw [abv_some hR (h x y hx.1)]
      rcases List.mem_cons.1 q with rfl | q
      · exact List.mem_cons_self
      · exact List.mem_cons_of_mem _ (ih y hx.2 q)
  exact key _ x (hT.isA x) hz
theorem tie_good {R : FT} (hR : WF R) : ∀ (X : List LK) {T : FT}, WF T → (∀ lk ∈ X, parO R lk.1 = if lk.2 < 0 then none else some lk.2) → (∀ x y, parO T x = some y → parO R x = some y) → (tieG T X).2 = 0
  | [], _, _, _, _ => rfl
  | k :: r, T, hT, hX, hs => by
    unfold tieG
    by_cases c : k.2 < 0
    · rw [if_pos c]
      exact tie_good hR r hT (fun lk h => hX lk (List.mem_cons_of_mem _ h)) hs
    · rw [if_neg c]
      have hk := hX k List.mem_cons_self
      rw [if_neg c] at hk
      have d : fsetE T k.1 k.2 = 0 := by
        unfold fsetE
        rw [if_neg]
        rintro (q | q)
        · have h1 := abv_sub hT hR hs q
          have h2 := abv_some hR hk
          exact (hR.isA k.1).self (by rw [h2]; exact List.mem_cons_of_mem _ h1)
        · exact not_own hR k.1 (by rw [hk, q])
      rw [if_pos d]
      have hT2 : WF (setF T k.1 k.2) := by
        have := hT.set9 k.1 k.2
        unfold setS9 at this
        rw [if_pos d] at this
        exact this
      refine tie_good hR r hT2 (fun lk h => hX lk (List.mem_cons_of_mem _ h)) (fun x y hx => ?_)
      rw [par_set] at hx
      by_cases e : x = k.1
      · rw [if_pos e] at hx
        injection hx with hx
        rw [e, hk, hx]
      · rw [if_neg e] at hx
        exact hs x y hx
theorem fst_to (T : FT) (m : Int → Option Nd) (K : List Int) : (toL T m K).map Prod.fst = K.filter (fun x => decide (parM T x ≠ wnt m x)) ∧ (fromL T m K).map Prod.fst = K.filter (fun x => decide (parM T x ≠ wnt m x)) := by
  unfold toL fromL
  induction K with
  | nil => exact ⟨rfl, rfl⟩
  | cons a K ih =>
    by_cases c : parM T a = wnt m a
    · rw [List.filterMap_cons_none (by rw [if_pos c]), List.filterMap_cons_none (by rw [if_pos c]), List.filter_cons_of_neg (by simp [c])]
      exact ih
    · rw [List.filterMap_cons_some (b := (a, wnt m a)) (by rw [if_neg c]), List.filterMap_cons_some (b := (a, parM T a)) (by rw [if_neg c]), List.filter_cons_of_pos (by simpa using c), List.map_cons, List.map_cons, ih.1, ih.2]
      exact ⟨rfl, rfl⟩
theorem mem_to {T : FT} {m : Int → Option Nd} {K : List Int} {lk : LK} : (lk ∈ toL T m K ↔ lk.1 ∈ K ∧ parM T lk.1 ≠ wnt m lk.1 ∧ lk.2 = wnt m lk.1) ∧ (lk ∈ fromL T m K ↔ lk.1 ∈ K ∧ parM T lk.1 ≠ wnt m lk.1 ∧ lk.2 = parM T lk.1) := by
  unfold toL fromL
  rw [List.mem_filterMap, List.mem_filterMap]
  obtain ⟨a, b⟩ := lk
  constructor
  · constructor
    · rintro ⟨x, hx, h⟩
      by_cases c : parM T x = wnt m x
      · rw [if_pos c] at h; cases h
      · rw [if_neg c] at h
        injection h with h
        injection h with h1 h2
        subst h1
        exact ⟨hx, c, h2.symm⟩
    · rintro ⟨h1, h2, h3⟩
      exact ⟨a, h1, by rw [if_neg h2]; show some (a, wnt m a) = some (a, b); rw [show b = wnt m a from h3]⟩
  · constructor
    · rintro ⟨x, hx, h⟩
      by_cases c : parM T x = wnt m x
      · rw [if_pos c] at h; cases h
      · rw [if_neg c] at h
        injection h with h
        injection h with h1 h2
        subst h1
        exact ⟨hx, c, h2.symm⟩
    · rintro ⟨h1, h2, h3⟩
      exact ⟨a, h1, by rw [if_neg h2]; show some (a, parM T a) = some (a, b); rw [show b = parM T a from h3]⟩
section
variable {D : FD} {p : Wp} {l : List Nd}
theorem LIf.parM0 (h : LIf D p) (x : Int) : parO p.T x = if parM p.T x < 0 then none else some (parM p.T x) := by
  unfold parM
  cases e : parO p.T x with
  | none => rfl
  | some y =>
    rw [h.par] at e
    obtain ⟨n, _, _, c, e2⟩ := mem_raw.1 (par_mem e)
    show some y = if y < 0 then none else some y
    rw [if_neg (by omega)]
theorem raw_put (hD : DOk D) (h : LIf D p) (x : Int) : parO (rawT (withS D.L l)) x = if x ∈ keysN l then (if wnt (lastF l) x < 0 then none else some (wnt (lastF l) x)) else parO p.T x := by
  have hn' := withS_nod l hD.nod
  have he := el_withS l hD.nod x
  by_cases c : x ∈ keysN l
  · rw [if_pos c]
    obtain ⟨n, hn⟩ := Option.isSome_iff_exists.1 (mem_keys.1 c)
    rw [hn] at he
    rw [raw_some hn' he]
    unfold wnt
    rw [hn]
    show (if 0 ≤ n.par then some n.par else none) = if (if n.par < -1 then (-1 : Int) else n.par) < 0 then none else some (if n.par < -1 then (-1 : Int) else n.par)
    by_cases d : n.par < -1
    · rw [if_pos d, if_neg (by omega), if_pos (by omega)]
    · rw [if_neg d]
      by_cases f : 0 ≤ n.par
      · rw [if_pos f, if_neg (by omega)]
      · rw [if_neg f, if_pos (by omega)]
  · rw [if_neg c]
    have hno : lastF l x = none := by
      cases q : lastF l x with
      | none => rfl
      | some n => exact absurd (mem_keys.2 (by rw [q]; rfl)) c
    rw [hno] at he
    have he : elF Nd.id (withS D.L l) x = elF Nd.id D.L x := he
    rw [h.par]
    cases q : elF Nd.id D.L x with
    | none => rw [raw_none (he.trans q), raw_none q]
    | some n => rw [raw_some hn' (he.trans q), raw_some hD.nod q]
theorem LIf.moves (hD : DOk D) (h : LIf D p) (hb : l.any badN = false) :
    (tieG (freeS p.T ((toL p.T (lastF l) (keysN l)).map Prod.fst)) (toL p.T (lastF l) (keysN l))).2 = putFE D l ∧ WF (movT p.T (toL p.T (lastF l) (keysN l)) (fromL p.T (lastF l) (keysN l))) ∧
      (putFE D l = 0 → ∀ x, parO (movT p.T (toL p.T (lastF l) (keysN l)) (fromL p.T (lastF l) (keysN l))) x = parO (rawT (withS D.L l)) x) ∧
      (putFE D l ≠ 0 → ∀ x, parO (movT p.T (toL p.T (lastF l) (keysN l)) (fromL p.T (lastF l) (keysN l))) x = parO p.T x) := by
  obtain ⟨X, hX⟩ : ∃ X, X = toL p.T (lastF l) (keysN l) := ⟨_, rfl⟩
  obtain ⟨Y, hY⟩ : ∃ Y, Y = fromL p.T (lastF l) (keysN l) := ⟨_, rfl⟩
  have hfs := fst_to p.T (lastF l) (keysN l)
  have hme := fun lk => mem_to (T := p.T) (m := lastF l) (K := keysN l) (lk := lk)
  rw [← hX, ← hY] at hfs ⊢
  rw [← hX, ← hY] at hme
  have hnd : (X.map Prod.fst).Nodup := by rw [hfs.1]; exact (up_nod (cmpS_up _)).sublist List.filter_sublist
  have hcs : ∀ x, x ∈ X.map Prod.fst ↔ x ∈ keysN l ∧ parM p.T x ≠ wnt (lastF l) x := fun x => by rw [hfs.1, List.mem_filter, decide_eq_true_eq]
  have hfe : Y.map Prod.fst = X.map Prod.fst := hfs.2.trans hfs.1.symm
  have hW1 : WF (freeS p.T (X.map Prod.fst)) := WF.frees _ h.wf
  have hfr : ∀ x, parO (freeS p.T (X.map Prod.fst)) x = if x ∈ X.map Prod.fst then none else parO p.T x := fun x => par_frees x _ _
  have htgt : ∀ lk ∈ X, parO (rawT (withS D.L l)) lk.1 = if lk.2 < 0 then none else some lk.2 := fun lk hlk => by
    obtain ⟨k1, k2, k3⟩ := (hme lk).1.1 hlk
    rw [raw_put hD h, if_pos k1, k3]
  have hstay : ∀ x, x ∉ X.map Prod.fst → parO p.T x = parO (rawT (withS D.L l)) x := fun x hx => by
    rw [raw_put hD h]
    by_cases c : x ∈ keysN l
    · rw [if_pos c]
      have e : parM p.T x = wnt (lastF l) x := by
        by_cases d : parM p.T x = wnt (lastF l) x
        · exact d
        · exact absurd ((hcs x).2 ⟨c, d⟩) hx
      rw [← e]
      exact h.parM0 x
    · rw [if_neg c]
  have hall : (tieG (freeS p.T (X.map Prod.fst)) X).2 = 0 → ∀ x, parO (tieG (freeS p.T (X.map Prod.fst)) X).1 x = parO (rawT (withS D.L l)) x := fun h0 x => by
    by_cases c : x ∈ X.map Prod.fst
    · obtain ⟨lk, hlk, e⟩ := List.mem_map.1 c
      have h1 := tie_spec X hnd (fun z hz => by rw [hfr, if_pos hz]) h0 lk hlk
      rw [← e, h1, htgt lk hlk]
    · rw [tie_off X _ c, hfr, if_neg c]
      exact hstay x c
  have hn' := withS_nod l hD.nod
  have hbE : putFE D l = if (withS D.L l).any (fun n => ringB (withS D.L l) n.id) then 8 else 0 := by
    unfold putFE
    rw [hb]
    simp
  have hW2 := tie_wf X hW1
  by_cases h0 : putFE D l = 0
  · have hW' := tree_wf hn' (putFE_zero h0).2
    have hR := raw_wf hn' hW'
    have hg : (tieG (freeS p.T (X.map Prod.fst)) X).2 = 0 := tie_good hR X hW1 htgt (fun x y hx => by
      rw [hfr] at hx
      by_cases c : x ∈ X.map Prod.fst
      · rw [if_pos c] at hx; cases hx
      · rw [if_neg c] at hx
        rw [← hstay x c]
        exact hx)
    have hm : movT p.T X Y = (tieG (freeS p.T (X.map Prod.fst)) X).1 := by unfold movT; rw [if_pos hg]
    rw [hm]
    exact ⟨by rw [hg, h0], hW2, fun _ => hall hg, fun c => absurd h0 c⟩
  · have h8 : putFE D l = 8 := by
      rw [hbE] at h0 ⊢
      split
      · rfl
      · rename_i q; rw [if_neg q] at h0; exact absurd rfl h0
    have hg : (tieG (freeS p.T (X.map Prod.fst)) X).2 = 8 := by
      rcases tie_e X (freeS p.T (X.map Prod.fst)) with q | q
      · exfalso
        have hWr := wf_eq (raw_nod hn') (hall q) hW2
        have hWt := wf_raw hn' hWr
        refine h0 ?_
        rw [hbE, if_neg]
        rw [List.any_eq_true]
        rintro ⟨n, _, hr⟩
        rw [no_ring10 hn' hWt] at hr
        cases hr
      · exact q
    have hm : movT p.T X Y = (tieG (freeS (tieG (freeS p.T (X.map Prod.fst)) X).1 (Y.map Prod.fst)) Y).1 := by unfold movT; rw [if_neg (by rw [hg]; omega)]
    have hfr2 : ∀ x, parO (freeS (tieG (freeS p.T (X.map Prod.fst)) X).1 (Y.map Prod.fst)) x = if x ∈ X.map Prod.fst then none else parO p.T x := fun x => by
      rw [par_frees, hfe]
      by_cases c : x ∈ X.map Prod.fst
      · rw [if_pos c, if_pos c]
      · rw [if_neg c, if_neg c, tie_off X _ c, hfr, if_neg c]
    have hW3 : WF (freeS (tieG (freeS p.T (X.map Prod.fst)) X).1 (Y.map Prod.fst)) := WF.frees _ hW2
    have htg2 : ∀ lk ∈ Y, parO p.T lk.1 = if lk.2 < 0 then none else some lk.2 := fun lk hlk => by
      obtain ⟨_, _, k3⟩ := (hme lk).2.1 hlk
      rw [k3]
      exact h.parM0 lk.1
    have hg2 : (tieG (freeS (tieG (freeS p.T (X.map Prod.fst)) X).1 (Y.map Prod.fst)) Y).2 = 0 := tie_good h.wf Y hW3 htg2 (fun x y hx => by
      rw [hfr2] at hx
      by_cases c : x ∈ X.map Prod.fst
      · rw [if_pos c] at hx; cases hx
      · rw [if_neg c] at hx; exact hx)
    refine ⟨by rw [hg, h8], by rw [hm]; exact tie_wf Y hW3, fun c => absurd c h0, fun _ x => ?_⟩
    rw [hm]
    by_cases c : x ∈ X.map Prod.fst
    · rw [← hfe] at c
      obtain ⟨lk, hlk, e⟩ := List.mem_map.1 c
      have h1 := tie_spec Y (by rw [hfe]; exact hnd) (fun z hz => by rw [hfr2, if_pos (by rw [← hfe]; exact hz)]) hg2 lk hlk
      rw [← e, h1, htg2 lk hlk]
    · rw [tie_off Y _ (by rw [hfe]; exact c), hfr2, if_neg c]
end
theorem still_same {D D' : FD} (h : DOk D) (hn' : (D'.L.map Nd.id).Nodup) (hW' : WF (treesN D'.L)) (hb : D'.begun = D.begun) (hd : ∀ z ∈ D.dirty, z ∈ D'.dirty)
    (hel : ∀ y, y ∉ D'.dirty → (elF Nd.id D'.L y).isSome = true → elF Nd.id D'.L y = elF Nd.id D.L y)
    (hha : ∀ y, y ∉ D'.dirty → (elF Nd.id D'.L y).isSome = true → (0 ≤ hangs D'.L y → hangs D'.L y ∉ D'.dirty) → hangs D'.L y = hangs D.L y)
    (hb' : D'.begun = true) {x : Int} (hx : (elF Nd.id D'.L x).isSome = true) (ht : x ∉ touchN D') :
    x ∉ D'.dirty ∧ (elF Nd.id D.L x).isSome = true ∧ x ∉ touchN D ∧ stv D'.L x = stv D.L x := by
  have hnd : ∀ y ∈ x :: abv (treesN D'.L) x, y ∉ D'.dirty := fun y hy hyd => ht ((mem_touch hW').2 (by
    rcases List.mem_cons.1 hy with rfl | hy
    · exact ⟨y, (mem_dirty hb').2 ⟨hyd, hx⟩, Or.inl rfl⟩
    · exact ⟨y, (mem_dirty hb').2 ⟨hyd, abv_node hW' hy⟩, Or.inr hy⟩))
  obtain ⟨k1, k2⟩ := way_stay h.nod hn' hel hha (abv (treesN D'.L) x) x (hW'.isA x) hx hnd
  have ea : abv (treesN D.L) x = abv (treesN D'.L) x := (h.wf.isA x).uniq k1
  refine ⟨hnd x List.mem_cons_self, by rw [← k2 x List.mem_cons_self]; exact hx, fun c => ?_, ?_⟩
  · obtain ⟨y, hy, hxy⟩ := (mem_touch h.wf).1 c
    have hyd := hd y ((mem_dirty (hb ▸ hb')).1 hy).1
    refine hnd y ?_ hyd
    rcases hxy with rfl | q
    · exact List.mem_cons_self
    · rw [ea] at q; exact List.mem_cons_of_mem _ q
  · have e1 : fate D'.L x = fate D.L x := by
      unfold fate
      rw [ea]
      exact fateL_congr k2
    unfold stv
    rw [e1, ea]
section
variable {D : FD} {p : Wp} {l : List Nd}
theorem put_still (hD : DOk D) (h0 : putFE D l = 0) (hb : D.begun = true) {x : Int} (hx : (elF Nd.id (withS D.L l) x).isSome = true) (ht : x ∉ touchN (putFD D l)) :
    x ∉ D.dirty ++ l.map Nd.id ∧ (elF Nd.id D.L x).isSome = true ∧ x ∉ touchN D ∧ stv (withS D.L l) x = stv D.L x := by
  have hput : putFD D l = { D with L := withS D.L l, dirty := D.dirty ++ l.map Nd.id } := by unfold putFD; rw [if_pos h0]
  rw [hput] at ht
  have hn' : ((withS D.L l).map Nd.id).Nodup := withS_nod l hD.nod
  have hW' := tree_wf hn' (putFE_zero h0).2
  have hel : ∀ y, y ∉ D.dirty ++ l.map Nd.id → elF Nd.id (withS D.L l) y = elF Nd.id D.L y := fun y hy =>
    el_ext hD.nod (fun m hm => withS_other (by rw [hm]; exact fun q => hy (List.mem_append_right _ q)))
  refine still_same (D := D) (D' := { D with L := withS D.L l, dirty := D.dirty ++ l.map Nd.id }) hD hn' hW' rfl (fun z hz => List.mem_append_left _ hz) (fun y hy _ => hel y hy) (fun y hy hs hh => ?_) hb hx ht
  obtain ⟨n, e⟩ := Option.isSome_iff_exists.1 hs
  have e' : elF Nd.id D.L y = some n := (hel y hy).symm.trans e
  have k1 := hangs_some e
  have k2 := hangs_some e'
  show hangs (withS D.L l) y = hangs D.L y
  have hh' : 0 ≤ hangs (withS D.L l) y → hangs (withS D.L l) y ∉ D.dirty ++ l.map Nd.id := hh
  rw [k1] at hh'
  rw [k1, k2]
  by_cases p0 : n.par < 0
  · rw [if_pos (Or.inl p0), if_pos (Or.inl p0)]
  · by_cases p1 : (elF Nd.id (withS D.L l) n.par).isNone = true
    · have p2 : (elF Nd.id D.L n.par).isNone = true := by
        rw [none_iff, el_id] at p1 ⊢
        exact fun q => p1 (withS_id.2 (Or.inl q))
      rw [if_pos (Or.inr p1), if_pos (Or.inr p2)]
    · rw [if_neg (fun q => q.elim p0 p1)] at hh' ⊢
      have := hel _ (hh' (by omega))
      rw [this] at p1
      rw [if_neg (fun q => q.elim p0 p1)]
def putNs (N : Int → Option BD) (m : Int → Option Nd) (K : List Int) (x : Int) : Option BD := if x ∈ K then some (((m x).getD zNd).pl, ((m x).getD zNd).hid) else N x
theorem putNs_step {N : Int → Option BD} {m : Int → Option Nd} {K : List Int} {j : Nat} {z : Int} (h : K[j]? = some z) : putNs N m (K.take (j + 1)) = upm (putNs N m (K.take j)) z (some (((m z).getD zNd).pl, ((m z).getD zNd).hid)) := by
  funext y
  unfold putNs upm
  rw [List.take_add_one, h]
  by_cases c : y = z
  · rw [if_pos c, if_pos (by rw [c]; simp), c]
  · rw [if_neg c]
    show _ = if y ∈ K.take j then _ else N y
    by_cases d : y ∈ K.take j
    · rw [if_pos d, if_pos (List.mem_append_left _ d)]
    · rw [if_neg d, if_neg (fun k => (List.mem_append.1 k).elim d (fun k => c (by simpa using k)))]
theorem LIf.put (hD : DOk D) (h : LIf D p) (h0 : putFE D l = 0) {T : FT} {Ff : Nat → Prop} (hW : WF T) (hT : ∀ x, parO T x = parO (rawT (withS D.L l)) x) :
    LIf (putFD D l) (mkP { wT p T Ff with N := putNs p.N (lastF l) (keysN l) } (keysN l)) := by
  have hput : putFD D l = { D with L := withS D.L l, dirty := D.dirty ++ l.map Nd.id } := by unfold putFD; rw [if_pos h0]
  have hel := el_withS l hD.nod
  have hkl : ∀ x, x ∈ keysN l ↔ x ∈ l.map Nd.id := fun x => mem_keys.trans last_mem
  have hno : ∀ x, x ∉ keysN l → elF Nd.id (withS D.L l) x = elF Nd.id D.L x := fun x c => by
    rw [hel]
    cases q : lastF l x with
    | none => rfl
    | some n => exact absurd (mem_keys.2 (by rw [q]; rfl)) c
  have hyes : ∀ x, x ∈ keysN l → ∃ n, lastF l x = some n ∧ elF Nd.id (withS D.L l) x = some n := fun x c => by
    obtain ⟨n, hn⟩ := Option.isSome_iff_exists.1 (mem_keys.1 c)
    exact ⟨n, hn, by rw [hel, hn]; rfl⟩
  have hL : (putFD D l).L = withS D.L l := by rw [hput]
  refine ⟨hW, fun x => by rw [hL]; exact hT x, fun x => ?_, fun x => ?_, fun x hx => ?_, fun hb x hx ht => ?_, ?_⟩
  · rw [hL]
    show putNs p.N (lastF l) (keysN l) x = _
    unfold putNs
    by_cases c : x ∈ keysN l
    · obtain ⟨n, h1, h2⟩ := hyes x c
      rw [if_pos c, h1, h2]; rfl
    · rw [if_neg c, hno x c, h.nod]
  · rw [hL]
    show (mkM p.M (keysN l) x).isSome = true ↔ _ ∧ ((putFD D l).begun = true → x ∈ (putFD D l).dirty)
    rw [hput]
    show (mkM p.M (keysN l) x).isSome = true ↔ _ ∧ (D.begun = true → x ∈ D.dirty ++ l.map Nd.id)
    unfold mkM
    by_cases c : x ∈ keysN l
    · obtain ⟨n, h1, h2⟩ := hyes x c
      rw [if_pos c, h2]
      exact ⟨fun _ => ⟨rfl, fun _ => List.mem_append_right _ ((hkl x).1 c)⟩, fun _ => rfl⟩
    · rw [if_neg c, hno x c, h.mrk]
      exact ⟨fun q => ⟨q.1, fun b => List.mem_append_left _ (q.2 b)⟩, fun q => ⟨q.1, fun b => (List.mem_append.1 (q.2 b)).elim id (fun k => absurd ((hkl x).2 k) c)⟩⟩
  · rw [hL] at hx
    show mkS p.S (keysN l) x = none
    unfold mkS
    by_cases c : x ∈ keysN l
    · rw [if_pos c]
    · rw [if_neg c]
      rw [hno x c] at hx
      exact h.non x hx
  · have hb' : D.begun = true := by rw [hput] at hb; exact hb
    rw [hL] at hx
    obtain ⟨k1, k2, k3, k4⟩ := put_still hD h0 hb' hx ht
    have c : x ∉ keysN l := fun c => k1 (List.mem_append_right _ ((hkl x).1 c))
    show mkS p.S (keysN l) x = stv (putFD D l).L x
    unfold mkS
    rw [if_neg c, hL, k4]
    exact h.sts hb' x k2 k3
  · show p.st = (putFD D l).steps
    rw [hput]
    exact h.st
theorem LIf.putNo (h : LIf D p) {T : FT} {Ff : Nat → Prop} (hW : WF T) (hT : ∀ x, parO T x = parO p.T x) : LIf D (wT p T Ff) :=
  ⟨hW, fun x => (hT x).trans (h.par x), h.nod, h.mrk, h.non, h.sts, h.st⟩
theorem drop_still (hD : DOk D) {x : Int} (hb : D.begun = true) {z : Int} (hz : (elF Nd.id (D.L.filter (fun m => m.id != x)) z).isSome = true)
    (ht : z ∉ touchN { D with L := D.L.filter (fun m => m.id != x), dirty := D.dirty ++ (D.L.filter (fun n => hangs D.L n.id == x)).map Nd.id }) :
    z ∉ D.dirty ++ (D.L.filter (fun n => hangs D.L n.id == x)).map Nd.id ∧ (elF Nd.id D.L z).isSome = true ∧ z ∉ touchN D ∧ stv (D.L.filter (fun m => m.id != x)) z = stv D.L z := by
  have hn' : ((D.L.filter (fun m => m.id != x)).map Nd.id).Nodup := hD.nod.sublist (List.Sublist.map _ List.filter_sublist)
  have hW' := wf_cut hD.nod hD.wf x
  have hsub : ∀ n ∈ D.L.filter (fun m => m.id != x), n ∈ D.L := fun n hn => (List.mem_filter.1 hn).1
  refine still_same (D := D) (D' := { D with L := D.L.filter (fun m => m.id != x), dirty := D.dirty ++ (D.L.filter (fun n => hangs D.L n.id == x)).map Nd.id }) hD hn' hW' rfl (fun z hz => List.mem_append_left _ hz) (fun y _ hs => ?_) (fun y hy hs _ => ?_) hb hz ht
  · obtain ⟨n, hn, e⟩ := el_isSome.1 hs
    have hne : y ≠ x := by
      have := (List.mem_filter.1 hn).2
      rw [← e]
      simpa using this
    exact el_ext hD.nod (fun m hm => by
      rw [List.mem_filter]
      exact ⟨And.left, fun q => ⟨q, by simp [hm, hne]⟩⟩)
  · obtain ⟨n, hn, e⟩ := el_isSome.1 hs
    have hne : y ≠ x := by
      have := (List.mem_filter.1 hn).2
      rw [← e]
      simpa using this
    rcases hangs_cut hD.nod hne with q | q
    · exact q
    · exact absurd (List.mem_append_right _ (List.mem_map.2 ⟨n, List.mem_filter.2 ⟨hsub n hn, by simp [e, q.2]⟩, e⟩)) hy
def dropP (p : Wp) (x : Int) (Ff : Nat → Prop) : Wp := { p with T := freeF p.T x, Ff := Ff, N := upm p.N x none, S := upm (mkS p.S (chF p.T x)) x none, M := upm (mkM p.M (chF p.T x)) x none }
theorem LIf.hangers (hD : DOk D) (h : LIf D p) {x : Int} (hx : (elF Nd.id D.L x).isSome = true) (z : Int) : z ∈ chF p.T x ↔ z ∈ (D.L.filter (fun n => hangs D.L n.id == x)).map Nd.id := by
  have h0 : 0 ≤ x := by
    obtain ⟨n, hn, e⟩ := el_isSome.1 hx
    rw [← e]
    exact hD.nn n hn
  rw [h.chd hD hx, mem_chF hD.wf.1, par_trees hD.nod, List.mem_map]
  constructor
  · intro q
    by_cases c : 0 ≤ hangs D.L z
    · rw [if_pos c] at q
      injection q with q
      obtain ⟨n, hn, e⟩ := hangs_in c
      exact ⟨n, List.mem_filter.2 ⟨hn, by rw [e, q]; simp⟩, e⟩
    · rw [if_neg c] at q; cases q
  · rintro ⟨n, hn, rfl⟩
    have := (List.mem_filter.1 hn).2
    have e : hangs D.L n.id = x := by simpa using this
    rw [e, if_pos h0]
theorem LIf.drop (hD : DOk D) (h : LIf D p) {x : Int} (hx : dropFB D x = true) (Ff : Nat → Prop) : LIf (dropFD D x) (dropP p x Ff) := by
  have hdr : dropFD D x = { D with L := D.L.filter (fun m => m.id != x), dirty := D.dirty ++ (D.L.filter (fun n => hangs D.L n.id == x)).map Nd.id } := by unfold dropFD; rw [if_pos hx]
  have hx' : (elF Nd.id D.L x).isSome = true := hx
  have hhg := h.hangers hD hx'
  have hn' : ((D.L.filter (fun m => m.id != x)).map Nd.id).Nodup := hD.nod.sublist (List.Sublist.map _ List.filter_sublist)
  have hel : ∀ z, z ≠ x → elF Nd.id (D.L.filter (fun m => m.id != x)) z = elF Nd.id D.L z := fun z hz => el_ext hD.nod (fun m hm => by
    rw [List.mem_filter]
    exact ⟨And.left, fun q => ⟨q, by simp [hm, hz]⟩⟩)
  have hxn : elF Nd.id (D.L.filter (fun m => m.id != x)) x = none := el_none.2 (fun m hm => by
    have := (List.mem_filter.1 hm).2
    simpa using this)
  rw [hdr]
  refine ⟨h.wf.free x, fun z => ?_, fun z => ?_, fun z => ?_, fun z hz => ?_, fun hb z hz ht => ?_, h.st⟩
  · show parO (freeF p.T x) z = parO (rawT (D.L.filter (fun m => m.id != x))) z
    rw [par_free]
    by_cases c : z = x
    · rw [if_pos c, c, raw_none hxn]
    · rw [if_neg c, h.par]
      cases q : elF Nd.id D.L z with
      | none => rw [raw_none q, raw_none ((hel z c).trans q)]
      | some n => rw [raw_some hD.nod q, raw_some hn' ((hel z c).trans q)]
  · show upm p.N x none z = (elF Nd.id (D.L.filter (fun m => m.id != x)) z).map _
    unfold upm
    by_cases c : z = x
    · rw [if_pos c, c, hxn]; rfl
    · rw [if_neg c, hel z c, h.nod]
  · show (upm (mkM p.M (chF p.T x)) x none z).isSome = true ↔ (elF Nd.id (D.L.filter (fun m => m.id != x)) z).isSome = true ∧ (D.begun = true → z ∈ D.dirty ++ (D.L.filter (fun n => hangs D.L n.id == x)).map Nd.id)
    unfold upm
    by_cases c : z = x
    · rw [if_pos c, c, hxn]
      simp
    · rw [if_neg c, hel z c]
      unfold mkM
      by_cases d : z ∈ chF p.T x
      · rw [if_pos d]
        have d2 := (hhg z).1 d
        obtain ⟨n, hn, e⟩ := List.mem_map.1 d2
        exact ⟨fun _ => ⟨el_isSome.2 ⟨n, (List.mem_filter.1 hn).1, e⟩, fun _ => List.mem_append_right _ d2⟩, fun _ => rfl⟩
      · rw [if_neg d, h.mrk]
        exact ⟨fun q => ⟨q.1, fun b => List.mem_append_left _ (q.2 b)⟩, fun q => ⟨q.1, fun b => (List.mem_append.1 (q.2 b)).elim id (fun k => absurd ((hhg z).2 k) d)⟩⟩
  · have hz' : elF Nd.id (D.L.filter (fun m => m.id != x)) z = none := hz
    show upm (mkS p.S (chF p.T x)) x none z = none
    unfold upm
    by_cases c : z = x
    · rw [if_pos c]
    · rw [if_neg c]
      unfold mkS
      by_cases d : z ∈ chF p.T x
      · rw [if_pos d]
      · rw [if_neg d]
        exact h.non z ((hel z c).symm.trans hz')
  · obtain ⟨k1, k2, k3, k4⟩ := drop_still hD hb hz ht
    have hzx : z ≠ x := fun c => by
      have hz' : (elF Nd.id (D.L.filter (fun m => m.id != x)) z).isSome = true := hz
      rw [c, hxn] at hz'
      cases hz'
    show upm (mkS p.S (chF p.T x)) x none z = stv (D.L.filter (fun m => m.id != x)) z
    unfold upm
    rw [if_neg hzx]
    unfold mkS
    rw [if_neg (fun d => k1 (List.mem_append_right _ ((hhg z).1 d))), k4]
    exact h.sts hb z k2 k3
def runP (p : Wp) (S : Int → Option RD) (M : Int → Option Unit) (s : Nat) : Wp := { p with S := S, M := M, st := s }
theorem LIf.runOk (hD : DOk D) (h : LIf D p) (h0 : runE D = 0) : LIf (runD D) (runP p (remS D.L (touchN D) p.S (touchN D).length) (fun _ => none) (p.st + (touchN D).length)) := by
  have hb : (runD D).begun = true := decide_eq_true h0
  refine ⟨h.wf, h.par, h.nod, fun x => ?_, fun x hx => ?_, fun _ x hx ht => ?_, ?_⟩
  · show (none : Option Unit).isSome = true ↔ _ ∧ ((runD D).begun = true → x ∈ ([] : List Int))
    rw [hb]
    simp
  · show remS D.L (touchN D) p.S (touchN D).length x = none
    have hx' : elF Nd.id D.L x = none := hx
    unfold remS
    rw [if_neg (fun c => by have := touch_node hD.wf c; rw [hx'] at this; cases this)]
    exact h.non x hx'
  · show remS D.L (touchN D) p.S (touchN D).length x = stv D.L x
    unfold remS
    rw [List.take_length]
    by_cases c : x ∈ touchN D
    · rw [if_pos c, if_pos c]
    · rw [if_neg c]
      by_cases hb0 : D.begun = true
      · exact h.sts hb0 x hx c
      · refine absurd ((mem_touch hD.wf).2 ⟨x, ?_, Or.inl rfl⟩) c
        unfold dirtyN
        rw [if_neg hb0]
        exact mem_names.2 hx
  · show p.st + (touchN D).length = D.steps + (touchN D).length
    rw [h.st]
theorem LIf.runNo (hD : DOk D) (h : LIf D p) (h0 : runE D ≠ 0) (n : Nat) : LIf (runD D) (runP p (mkS (remS D.L (touchN D) p.S n) (namesN D.L)) (mkM p.M (namesN D.L)) (p.st + (touchN D).length)) := by
  have hb : (runD D).begun = false := decide_eq_false h0
  refine ⟨h.wf, h.par, h.nod, fun x => ?_, fun x hx => ?_, fun b => (by rw [hb] at b; cases b), ?_⟩
  · show (mkM p.M (namesN D.L) x).isSome = true ↔ (elF Nd.id D.L x).isSome = true ∧ ((runD D).begun = true → _)
    rw [hb]
    unfold mkM
    by_cases c : x ∈ namesN D.L
    · rw [if_pos c]
      exact ⟨fun _ => ⟨mem_names.1 c, fun b => (by cases b)⟩, fun _ => rfl⟩
    · rw [if_neg c, h.mrk]
      exact ⟨fun q => absurd (mem_names.2 q.1) c, fun q => absurd (mem_names.2 q.1) c⟩
  · have hx' : elF Nd.id D.L x = none := hx
    show mkS (remS D.L (touchN D) p.S n) (namesN D.L) x = none
    unfold mkS
    by_cases c : x ∈ namesN D.L
    · rw [if_pos c]
    · rw [if_neg c]
      unfold remS
      rw [if_neg (fun c => by have := touch_node hD.wf c; rw [hx'] at this; cases this)]
      exact h.non x hx'
  · show p.st + (touchN D).length = D.steps + (touchN D).length
    rw [h.st]
theorem LIf.state (hD : DOk D) (h : LIf D p) (x : Int) : (stL p x).2 = (stateN D x).isSome ∧ cFs (stL p x).1.1 = cFs ((stateN D x).getD zSt) := by
  unfold stL stateN
  rw [h.dirty hD]
  by_cases hn : (elF Nd.id D.L x).isSome = true
  · by_cases ht : x ∈ touchN D
    · rw [if_pos (decide_eq_true ht), if_neg (fun q => q.2.1 ht)]
      exact ⟨rfl, rfl⟩
    · have hb : D.begun = true := by
        by_cases hb : D.begun = true
        · exact hb
        · refine absurd ((mem_touch hD.wf).2 ⟨x, ?_, Or.inl rfl⟩) ht
          unfold dirtyN
          rw [if_neg hb]
          exact mem_names.2 hn
      rw [if_neg (by simpa using ht), if_pos ⟨hb, ht, hn⟩]
      obtain ⟨s, h1, h2⟩ := hD.st hb x hn ht
      have h3 := h.sts hb x hn ht
      have h4 : stv D.L x = some (s, (abv (treesN D.L) x).length + 1) := by unfold stv; rw [h1]; rfl
      rw [h3, h4, h2]
      exact ⟨rfl, rfl⟩
  · have ht : x ∉ touchN D := fun c => hn (touch_node hD.wf c)
    have hx : elF Nd.id D.L x = none := by
      cases q : elF Nd.id D.L x with
      | none => rfl
      | some n => rw [q] at hn; exact absurd rfl hn
    rw [if_neg (by simpa using ht), if_neg (fun q => hn q.2.2), h.non x hx]
    exact ⟨rfl, rfl⟩
theorem LIf.zero {p : Wp} (hT : p.T = []) (hN : p.N = fun _ => none) (hS : p.S = fun _ => none) (hM : p.M = fun _ => none) (hs : p.st = 0) : LIf FD0 p := by
  refine ⟨by rw [hT]; exact WF.nil, fun x => (by rw [hT]; rfl), fun x => (by rw [hN]; rfl), fun x => ?_, fun x _ => (by rw [hS]), fun b => (by cases b), hs⟩
  rw [hM]
  exact ⟨fun q => (by cases q), fun q => (by cases q.1)⟩
end
def wN (p : Wp) (N' : Int → Option BD) : Wp := { p with N := N' }
theorem fld_place (a b : Int) (M : Nat → Int) (h : Bool) (W : World) : (Instr.field 205 (.agg #[.int .i64 a, .int .i64 b, .int .i64 (M 0), .int .i64 (M 1), .int .i64 (M 2), .int .i64 (M 3), .int .i64 (M 4), .int .i64 (M 5), .int .i64 (M 6), .int .i64 (M 7), .int .i64 (M 8), .int .i64 (M 9), .int .i64 (M 10), .int .i64 (M 11), .bool h]) 2).run Tryz.prog W = .ok (.agg (lM M).toArray) W := by kernel_rfl
theorem fld_hid (a b : Int) (M : Nat → Int) (h : Bool) (W : World) : (Instr.field 205 (.agg #[.int .i64 a, .int .i64 b, .int .i64 (M 0), .int .i64 (M 1), .int .i64 (M 2), .int .i64 (M 3), .int .i64 (M 4), .int .i64 (M 5), .int .i64 (M 6), .int .i64 (M 7), .int .i64 (M 8), .int .i64 (M 9), .int .i64 (M 10), .int .i64 (M 11), .bool h]) 3).run Tryz.prog W = .ok (.bool h) W := by kernel_rfl
theorem bld_body (M : Nat → Int) (b : Bool) (W : World) : (Instr.build 215 #[(0, .agg (lM M).toArray), (1, .bool b)]).run Tryz.prog W = .ok (.agg (cBd (M, b)).toArray) W := by kernel_rfl
theorem keysN_len (l : List Nd) : (keysN l).length ≤ l.length := by
  unfold keysN
  have := cmpS_len (l.map Nd.id)
  rwa [List.length_map] at this
theorem keysN_rg {l : List Nd} (hl : ∀ n ∈ l, Rg n.id ∧ Rg n.par) : Rgs (keysN l) := fun x hx => by
  obtain ⟨n, hn, e⟩ := List.mem_map.1 (mem_cmpS.1 hx)
  rw [← e]
  exact (hl n hn).1
theorem wnt_rg {l : List Nd} (hl : ∀ n ∈ l, Rg n.id ∧ Rg n.par) (x : Int) : Rg (wnt (lastF l) x) := by
  unfold wnt
  cases q : lastF l x with
  | none => exact ⟨by show _ ≤ (if (0 : Int) < -1 then (-1 : Int) else 0); simp, by show (if (0 : Int) < -1 then (-1 : Int) else 0) ≤ _; simp⟩
  | some n =>
    have := (hl n (last_id q).2).2
    show Rg (if n.par < -1 then -1 else n.par)
    unfold Rg at this ⊢
    split <;> omega
section
variable {w : World} {p : Wp} {D : FD}
set_option maxHeartbeats 8000000 in
set_option maxRecDepth 100000 in
theorem lfput_any (hD : DOk D) (hL : LIf D p) (h : LW w p) {a : Option Addr} {n cap : Nat} {l : List Nd} (row : NRow w a n l) (hl : ∀ m ∈ l, Rg m.id ∧ Rg m.par) (hDl : D.L.length ≤ 300) (hnl : n ≤ 300) :
    Calls Tryz.prog 70 #[.pointer (some ⟨p.g, 0, none⟩), .slice a n cap] w fun e w' => e = .returned (.int .i64 (putFE D l)) ∧ ∃ q, q.g = p.g ∧ ChL w w' p q ∧ LIf (putFD D l) q := by
  have hbig := row.2.1
  have hmm := @run_makeMap Tryz.prog
  have hln := row.1
  have HLen := Lib.hid row.1
  have HRow : Hid (∀ u, Below w.heap.size w u → NRow u a n l) := Lib.hid (fun u q => row.keep q)
  have HRi : Hid (∀ u, Below w.heap.size w u → Calls Tryz.prog 122 #[.slice a n cap] u fun e w' => e = .returned (.bool (!l.any badN)) ∧ Below u.heap.size u w') := Lib.hid (fun u q => lfright_any a n cap l u (row.keep q))
  have HStill : Hid (∀ u, Below w.heap.size w u → l.any badN = true → putFE D l = 1 ∧ ∃ q, q.g = p.g ∧ ChL w u p q ∧ LIf (putFD D l) q) := Lib.hid (fun u q hb => by
    have h1 : putFE D l = 1 := by unfold putFE; rw [if_pos hb]
    refine ⟨h1, p, rfl, ChL.still h q, ?_⟩
    unfold putFD
    rw [if_neg (by rw [h1]; omega)]
    exact hL)
  have HPut : Hid (∀ u gl j nd, Below w.heap.size w u → MF nK u gl (lastF (l.take j)) → w.heap.size ≤ gl → l[j]? = some nd → ∃ w2, (Instr.mapUpdate 204 (.map (some gl)) (.int .i64 nd.id) (.agg (cNd nd).toArray)).run Tryz.prog u = .ok () w2 ∧ MF nK w2 gl (lastF (l.take (j + 1))) ∧ Below w.heap.size w w2) := Lib.hid (fun u gl j nd hb hm hg hj => by
    obtain ⟨w2, r2, m2, g2⟩ := hm.put (hl nd (List.mem_of_getElem? hj)).1 nd (l.map Nd.id) (fun y hy => by
      unfold upm at hy
      by_cases c : y = nd.id
      · rw [c]; exact List.mem_map.2 ⟨nd, List.mem_of_getElem? hj, rfl⟩
      · rw [if_neg c, last_mem] at hy
        obtain ⟨m, hm, e⟩ := List.mem_map.1 hy
        exact List.mem_map.2 ⟨m, List.mem_of_mem_take hm, e⟩) (by rw [List.length_map]; omega)
    refine ⟨w2, r2, by rw [last_step hj]; exact m2, ⟨g2.os.trans hb.os, g2.tape.trans hb.tape, g2.output.trans hb.output, Nat.le_trans hb.size g2.size, fun q hq => (g2.block q (Nat.lt_of_lt_of_le hq hb.size) (fun e => by injection e with e; omega)).trans (hb.block q hq)⟩⟩)
  have HSrt : Hid (∀ u gl, MF nK u gl (lastF l) → Calls Tryz.prog 123 #[.func (.func 190) #[] #[.pointer (some ⟨u.heap.size, 0, none⟩)]] (u.alloc (.cells #[.map (some gl)] 204)) fun e w' => ∃ v, e = .returned v ∧ OwnD w' u.heap.size v (keysN l).length (keysN l) ∧ Below u.heap.size u w') := Lib.hid (fun u gl hm => sortedN9 hm (keysN l) (cmpS_up _) (fun z => ⟨fun q => ⟨keysN_rg hl z q, mem_keys.1 q⟩, fun q => mem_keys.2 q.2⟩))
  have HMs : Hid (∀ u gl ka nk kc, Below w.heap.size w u → MF nK u gl (lastF l) → Row u ka nk (keysN l) → nk ≤ 1000 → Calls Tryz.prog 125 #[.pointer (some ⟨p.g, 0, none⟩), .slice ka nk kc, .map (some gl)] u fun e w' => ∃ v1 v2, e = .returned (.tuple #[v1, v2]) ∧ OwnL w' u.heap.size v1 (toL p.T (lastF l) (keysN l)) ∧ OwnL w' u.heap.size v2 (fromL p.T (lastF l) (keysN l)) ∧ Below u.heap.size u w') := Lib.hid (fun u gl ka nk kc q hm hr hk => lfmoves_any (h.keep q) hm hr hk (keysN_rg hl))
  have hTl := hL.len
  have hkl : (keysN l).length ≤ 300 := by have := keysN_len l; omega
  have HMv : Hid (∀ u base v1 v2, Below w.heap.size w u → w.heap.size ≤ base → OwnL u base v1 (toL p.T (lastF l) (keysN l)) → OwnL u base v2 (fromL p.T (lastF l) (keysN l)) → l.any badN = false → Calls Tryz.prog 126 #[.pointer (some ⟨p.g, 0, none⟩), v1, v2] u fun e w' => e = .returned (.int .i64 (putFE D l)) ∧ ∃ Ff, ChL u w' p (wT p (movT p.T (toL p.T (lastF l) (keysN l)) (fromL p.T (lastF l) (keysN l))) Ff)) := Lib.hid (fun u base v1 v2 q hbs o1 o2 hb => by
    obtain ⟨a1, c1, e1, _, _, r1⟩ := o1.row cLk_len
    obtain ⟨a2, c2, e2, _, _, r2⟩ := o2.row cLk_len
    have hmv := hL.moves hD hb
    have hlt1 : ∀ ad, a1 = some ad → (toL p.T (lastF l) (keysN l)).length = 0 ∨ (base ≤ ad.block ∧ ad.block < u.heap.size) := fun ad e => by
      by_cases z : (toL p.T (lastF l) (keysN l)).length = 0
      · exact Or.inl z
      · exact Or.inr (o1.lt ad.block (by rw [e1, e]; rfl))
    have hlt2 : ∀ ad, a2 = some ad → (fromL p.T (lastF l) (keysN l)).length = 0 ∨ (base ≤ ad.block ∧ ad.block < u.heap.size) := fun ad e => by
      by_cases z : (fromL p.T (lastF l) (keysN l)).length = 0
      · exact Or.inl z
      · exact Or.inr (o2.lt ad.block (by rw [e2, e]; rfl))
    have hl1 : (toL p.T (lastF l) (keysN l)).length ≤ (keysN l).length := List.length_filterMap_le _ _
    have hl2 : (fromL p.T (lastF l) (keysN l)).length ≤ (keysN l).length := List.length_filterMap_le _ _
    rw [e1, e2]
    have hc := lfmove_any (cap := c1) (cap' := c2) (h.keep q) hL.wf r1 (by
      by_cases z : (toL p.T (lastF l) (keysN l)).length = 0
      · exact Or.inl z
      · refine Or.inr (fun ad e hf => ?_)
        have k1 := h.inb _ hf
        rcases hlt1 ad e with k | k
        · exact z k
        · omega) (fun lk hlk => by
      obtain ⟨k1, _, k3⟩ := mem_to.1.1 hlk
      exact ⟨keysN_rg hl _ k1, by rw [k3]; exact wnt_rg hl _⟩) r2 (by
      by_cases z : (fromL p.T (lastF l) (keysN l)).length = 0
      · exact Or.inl z
      · refine Or.inr (fun ad e hf => ?_)
        have k1 := h.inb _ hf
        rcases hlt2 ad e with k | k
        · exact z k
        · omega) (fun lk hlk => by
      obtain ⟨k1, _, k3⟩ := mem_to.2.1 hlk
      exact ⟨keysN_rg hl _ k1, by rw [k3]; exact hL.parMR hD _⟩) (fun ad e => (hlt2 ad e).imp_right And.right) (by omega)
    refine hc.mono ?_
    rintro e w' ⟨rfl, hch⟩
    exact ⟨by rw [hmv.1], hch⟩)
  have HNo : Hid (∀ u5 u Ff, Below w.heap.size w u5 → l.any badN = false → putFE D l ≠ 0 → ChL u5 u p (wT p (movT p.T (toL p.T (lastF l) (keysN l)) (fromL p.T (lastF l) (keysN l))) Ff) → ∃ q, q.g = p.g ∧ ChL w u p q ∧ LIf (putFD D l) q) := Lib.hid (fun u5 u Ff q hb h0 hch => by
    have hmv := hL.moves hD hb
    refine ⟨wT p (movT p.T (toL p.T (lastF l) (keysN l)) (fromL p.T (lastF l) (keysN l))) Ff, rfl, (ChL.still h q).join hch, ?_⟩
    unfold putFD
    rw [if_neg h0]
    exact hL.putNo hmv.2.1 (hmv.2.2.2 h0))
  have HStep : Hid (∀ u5 u T Ff j z, ChL u5 u p (wN (wT p T Ff) (putNs p.N (lastF l) ((keysN l).take j))) → (keysN l)[j]? = some z → ∃ w2, (Instr.mapUpdate 197 (.map (some p.gn)) (.int .i64 z) (.agg (cBd (((lastF l z).getD zNd).pl, ((lastF l z).getD zNd).hid)).toArray)).run Tryz.prog u = .ok () w2 ∧ ChL u5 w2 p (wN (wT p T Ff) (putNs p.N (lastF l) ((keysN l).take (j + 1))))) := Lib.hid (fun u5 u T Ff j z k hz => by
    obtain ⟨w2, r2, m2, g2⟩ := k.1.nod.put (keysN_rg hl z (List.mem_of_getElem? hz)) (((lastF l z).getD zNd).pl, ((lastF l z).getD zNd).hid) (D.L.map Nd.id ++ keysN l) (fun y hy => by
      unfold upm at hy
      by_cases c : y = z
      · rw [c]; exact List.mem_append_right _ (List.mem_of_getElem? hz)
      · rw [if_neg c] at hy
        have hy2 : (putNs p.N (lastF l) ((keysN l).take j) y).isSome = true := hy
        unfold putNs at hy2
        by_cases d : y ∈ (keysN l).take j
        · exact List.mem_append_right _ (List.mem_of_mem_take d)
        · rw [if_neg d, hL.nodS] at hy2
          exact List.mem_append_left _ (el_id.1 hy2)) (by rw [List.length_append, List.length_map]; omega)
    refine ⟨w2, r2, ?_⟩
    rw [putNs_step hz]
    exact k.join (k.1.setN m2 g2))
  have HMk : Hid (∀ u5 u Ff ka nk kc, Below w.heap.size w u5 → l.any badN = false → putFE D l = 0 → ChL u5 u p (wN (wT p (movT p.T (toL p.T (lastF l) (keysN l)) (fromL p.T (lastF l) (keysN l))) Ff) (putNs p.N (lastF l) (keysN l))) → Row u5 ka nk (keysN l) → (∀ ad, ka = some ad → nk = 0 ∨ w.heap.size ≤ ad.block) → Calls Tryz.prog 120 #[.pointer (some ⟨p.g, 0, none⟩), .slice ka nk kc] u fun e w' => e = .returned (.tuple #[]) ∧ ∃ q, q.g = p.g ∧ ChL w w' p q ∧ LIf (putFD D l) q) := Lib.hid (fun u5 u Ff ka nk kc q hb h0 k hr hka => by
    have hmv := hL.moves hD hb
    have hnk : nk = (keysN l).length := hr.1.symm
    have haw : Aw (footL p) ka nk := by
      by_cases z : nk = 0
      · exact Or.inl z
      · refine Or.inr (fun ad e hf => ?_)
        have := h.inb _ hf
        rcases hka ad e with c | c
        · exact z c
        · omega
    have hinb : ∀ ad, ka = some ad → nk = 0 ∨ ad.block < u5.heap.size := fun ad e => by
      rcases hr.2.2 with c | ⟨b, off, e2, hc⟩
      · exact Or.inl c
      · by_cases z : nk = 0
        · exact Or.inl z
        · rw [e] at e2
          injection e2 with e2
          rw [e2]
          exact Or.inr (World.block_lt_of_cell? _ _ (hc 0 (by omega)))
    have hr2 := row_frame hr haw k.2.1
    refine (lfmark_any (cap := kc) k.1 (by omega) hr2 (by
      by_cases z : nk = 0
      · exact Or.inl z
      · refine Or.inr (fun ad e hf => ?_)
        rcases k.2.2 _ hf with c | c
        · rcases haw with d | d
          · exact z d
          · exact d ad e c
        · rcases hinb ad e with d | d
          · exact z d
          · omega) (keysN_rg hl) (D.L.map Nd.id) (fun y hy => by
      have hy2 : (p.M y).isSome = true := hy
      rw [hL.mrk] at hy2
      exact el_id.1 hy2.1) (by rw [List.length_map]; omega)).mono ?_
    rintro e w' ⟨rfl, hch⟩
    refine ⟨rfl, mkP (wN (wT p (movT p.T (toL p.T (lastF l) (keysN l)) (fromL p.T (lastF l) (keysN l))) Ff) (putNs p.N (lastF l) (keysN l))) (keysN l), rfl, ((ChL.still h q).join k).join hch, ?_⟩
    exact hL.put hD h0 hmv.2.1 (hmv.2.2.1 h0))
  have HIn : Hid (∀ b, footL p b → b < w.heap.size) := Lib.hid h.inb
  have HN0 : Hid (∀ T Ff, wN (wT p T Ff) (putNs p.N (lastF l) ((keysN l).take 0)) = wT p T Ff) := Lib.hid (fun T Ff => by
    unfold wN
    rw [List.take_zero, show putNs p.N (lastF l) [] = (wT p T Ff).N from by funext x; unfold putNs; rw [if_neg (by simp)]; rfl])
  have HCl : Hid (∀ u u5 T Ff N', ChL u5 u p (wN (wT p T Ff) N') → u.cell? ⟨p.g, 1, none⟩ = some (.map (some p.gn)) ∧ p.g < u.heap.size) := Lib.hid (fun u u5 T Ff N' k => ⟨k.1.cells.2.1, k.1.cells.2.2.2.2.2⟩)
  obtain ⟨K, hK⟩ : ∃ K, K = keysN l := ⟨_, rfl⟩
  obtain ⟨m, hm⟩ : ∃ m, m = lastF l := ⟨_, rfl⟩
  obtain ⟨E, hE⟩ : ∃ E, E = putFE D l := ⟨_, rfl⟩
  obtain ⟨bad, hbad⟩ : ∃ bad, bad = l.any badN := ⟨_, rfl⟩
  rw [← hK] at HSrt HMs HMv HNo HStep HMk HN0 hkl
  rw [← hm] at HSrt HMs HMv HNo HStep HMk HN0
  rw [← hE] at HStill HMv HNo HMk ⊢
  rw [← hbad] at HRi HStill HMv HNo HMk
  have HKr : Hid (Rgs K) := Lib.hid (by rw [hK]; exact keysN_rg hl)
  have HMe := Lib.hid hm
  obtain ⟨MT, hMT⟩ : ∃ MT, MT = movT p.T (toL p.T m K) (fromL p.T m K) := ⟨_, rfl⟩
  rw [← hMT] at HMv HNo HMk
  obtain ⟨g, hge⟩ : ∃ g, g = p.g := ⟨_, rfl⟩
  obtain ⟨gn, hne⟩ : ∃ gn, gn = p.gn := ⟨_, rfl⟩
  rw [← hge] at HMs HMv HMk HCl HStill HNo ⊢
  rw [← hne] at HStep HCl
  clear h row hL hD hDl hl hTl hK hm hE hbad hMT hge hne hln
  go_enter Tryz.func70, Tryz.ntmps70
  go_wp2_with fail
  refine (HRi.out w (Below.refl _ _)).mono ?_
  rintro e w1 ⟨rfl, b1⟩
  have HB1 := Lib.hid b1
  clear b1 HRi
  cases bad with
  | true =>
    obtain ⟨h1, h2⟩ := HStill.out w1 HB1.out rfl
    have HE1 := Lib.hid h1
    have HQ := Lib.hid h2
    clear HStill h1 h2
    go_wp2
    go_ret
    exact ⟨by rw [HE1.out] <;> rfl, HQ.out⟩
  | false =>
    have hal : Below w1.heap.size w1 (w1.alloc (.map #[] 0)) := alloc_below _ _
    have HM0 : Hid (MF nK (w1.alloc (.map #[] 0)) w1.heap.size (lastF (l.take 0)) ∧ Below w.heap.size w (w1.alloc (.map #[] 0)) ∧ w.heap.size ≤ w1.heap.size ∧ w1.heap.size < (w1.alloc (.map #[] 0)).heap.size) := Lib.hid ⟨by rw [List.take_zero]; exact MF.new nK w1, bthen HB1.out hal, HB1.out.size, by simp⟩
    clear HStill hal HB1
    go_upto_region 4 with fail
    refine fin (fun W => MF nK W w1.heap.size (lastF (l.take 0)) ∧ Below w.heap.size w W ∧ w.heap.size ≤ w1.heap.size ∧ w1.heap.size < W.heap.size) HM0.out ?_
    obtain ⟨gl, hgl⟩ : ∃ gl, gl = w1.heap.size := ⟨_, rfl⟩
    rw [← hgl]
    rintro W ⟨hm0, hb0, hg0, hgw⟩
    have HM := Lib.hid hm0
    have HB := Lib.hid hb0
    clear HM0 hgl hm0 hb0 hgw
    go_wp2
    go_loopw [7, 24] (fun _ i wr => ∃ j : Nat, j ≤ n ∧ i = .int .i64 j ∧ MF nK wr gl (lastF (l.take j)) ∧ Below w.heap.size w wr) (fun _ i _ => n - (ivl i).toNat)
    case atStart => exact ⟨0, by omega, rfl, HM.out, HB.out⟩
    case round =>
      clear HM HB
      obtain ⟨j, hj, rfl, hm1, hb⟩ := hrel
      have HM := Lib.hid hm1
      have HB := Lib.hid hb
      have hrw := HRow.out wr hb
      clear hm1 hb
      by_cases hlt : j < n
      · obtain ⟨b, off, nd, rfl, hbl, hx, hr⟩ := hrw.at_ hlt
        have HRg := Lib.hid hr
        have HNF := Lib.hid (nf_any nd)
        have hal : Below wr.heap.size wr (wr.alloc (.cells (cNd zNd).toArray 205)) := alloc_below _ _
        have hbs : Below wr.heap.size wr ((wr.alloc (.cells (cNd zNd).toArray 205)).setCells wr.heap.size 0 (cNd nd)) := below_setCells (cNd nd) hal (Nat.le_refl _)
        have HTh : Hid ((wr.alloc (.cells (cNd zNd).toArray 205)).there wr.heap.size 0 (cNd nd).toArray.size) := Lib.hid (blk_there (Blk.new wr _ _) (by rw [List.size_toArray]; exact Nat.le_refl 15))
        have HK : Hid (Blk ((wr.alloc (.cells (cNd zNd).toArray 205)).setCells wr.heap.size 0 (cNd nd)) wr.heap.size 205 (cNd nd).toArray ∧ Below wr.heap.size wr ((wr.alloc (.cells (cNd zNd).toArray 205)).setCells wr.heap.size 0 (cNd nd))) := Lib.hid ⟨blk_over (Blk.new wr _ _) rfl, hbs⟩
        have HC0 : Hid (∀ W gg, Blk W gg 205 (cNd nd).toArray → W.cell? ⟨gg, 0, none⟩ = some (.int .i64 nd.id)) := Lib.hid (fun W gg k => k.cell 0)
        have HPu := Lib.hid (fun u => HPut.out u gl j nd)
        obtain ⟨XM, hXM⟩ : ∃ XM, XM = cNd nd := ⟨_, rfl⟩
        obtain ⟨y, hy⟩ : ∃ y, y = nd.id := ⟨_, rfl⟩
        rw [← hXM] at HRg HNF HTh HK HC0 HPu
        rw [← hy] at HC0 HPu
        have HX := Lib.hid hx
        have j0 : (0 : Int) ≤ (j : Int) := by omega
        have j1 : (j : Int) < (n : Int) := by omega
        clear hrw hr hx hXM hy hal hbs
        go_upto_region 7 with (first | refine wpList_load_mid rfl 205 (.tmp 26) rfl b (off + j * 15) rfl XM _ HRg.out Tryz.underlying205 rfl HNF.out.size ?_ | refine wpList_store_mid rfl 205 (.tmp 7) (.tmp 27) rfl wr.heap.size 0 XM.toArray rfl rfl HTh.out HNF.out.sizea HNF.out.onea ?_)
        refine fin (fun W => Blk W wr.heap.size 205 XM.toArray ∧ Below wr.heap.size wr W) HK.out ?_
        clear HK HTh HRg hbl
        obtain ⟨g7, hg7⟩ : ∃ g7, g7 = wr.heap.size := ⟨_, rfl⟩
        rw [← hg7]
        rintro W2 ⟨k7, hb7⟩
        have c7 := HC0.out W2 g7 k7
        have HR7 : Hid (W2.rangeAt g7 0 XM) := Lib.hid (blk_whole k7)
        have z7 := k7.lt
        rw [hg7] at hb7
        obtain ⟨w3, r3, m3, b3⟩ := HPu.out W2 (bthen HB.out hb7) (HM.out.keep hb7) hg0 HX.out
        have HM3 := Lib.hid m3
        have HB3 := Lib.hid b3
        clear HPu hb7 k7 m3 b3 hg7 HM HB
        go_wp2_with (refine wpList_load_mid rfl 205 (.tmp 7) rfl g7 0 rfl XM _ HR7.out Tryz.underlying205 rfl HNF.out.size ?_)
        go_roundw
        case rel => exact ⟨j + 1, by omega, by go_num, HM3.out, HB3.out⟩
        case measure => simp [ivl] <;> omega
      · obtain rfl : j = n := by omega
        have e0 : l.take j = l := List.take_of_length_le (by rw [HLen.out]; exact Nat.le_refl _)
        rw [e0, ← HMe.out] at HM
        have j1 : ¬ (j : Int) < (j : Int) := by omega
        have HKy := Lib.hid (keysN9 (some gl) wr)
        have HSo := Lib.hid (HSrt.out wr gl HM.out)
        clear e0 hrw hlt HPut HSrt HRow HLen
        go_wp2_with fail
        refine HKy.out.mono ?_
        rintro e w2 ⟨rfl, rfl⟩
        go_wp2_with fail
        refine HSo.out.mono ?_
        rintro e w3 ⟨v, rfl, hown, b3⟩
        obtain ⟨ka, kc, hkv, hkr⟩ := hown.row
        have hkin : ∀ ad, ka = some ad → K.length = 0 ∨ w.heap.size ≤ ad.block := fun ad e => by
          by_cases z : K.length = 0
          · exact Or.inl z
          · have k1 := (World.ownsRow.lt hown ad.block (by rw [hkv, e]; rfl)).1
            have k2 := HB.out.size
            exact Or.inr (by omega)
        subst hkv
        obtain ⟨nk, hnk⟩ : ∃ nk, nk = K.length := ⟨_, rfl⟩
        rw [← hnk] at hkr hkin hkl ⊢
        have HNk := Lib.hid hnk
        have HKin := Lib.hid hkin
        replace HB := Lib.hid (bthen HB.out b3)
        replace HM := Lib.hid (HM.out.keep b3)
        have HKr3 := Lib.hid hkr
        have hkbig := hkr.2.1
        have HMo := Lib.hid (HMs.out w3 gl ka nk kc HB.out HM.out hkr (by omega))
        clear hown hkr hkin b3 HKy HSo HMs hnk
        go_wp2_with fail
        refine HMo.out.mono ?_
        rintro e w4 ⟨v1, v2, rfl, o1, o2, b4⟩
        have hs3 : w.heap.size ≤ w3.heap.size := HB.out.size
        replace HB := Lib.hid (bthen HB.out b4)
        replace HM := Lib.hid (HM.out.keep b4)
        replace HKr3 := Lib.hid (row_keep HKr3.out b4)
        have HMv4 := Lib.hid (HMv.out w4 w3.heap.size v1 v2 HB.out hs3 o1 o2 (by trivial))
        clear o1 o2 b4 HMo HMv
        go_wp2_with fail
        refine HMv4.out.mono ?_
        rintro e w5 ⟨rfl, Ff, hch⟩
        have HCh := Lib.hid hch
        clear hch HMv4
        by_cases hE0 : E = 0
        · have hMk := fun u ka' nk' kc' => HMk.out w4 u Ff ka' nk' kc' HB.out (by trivial) hE0
          have HMk4 := Lib.hid (fun u => hMk u ka nk kc)
          have HRd : Hid (∀ u N', ChL w4 u p (wN (wT p MT Ff) N') → MF nK u gl m ∧ Row u ka nk K) := Lib.hid (fun u N' k => by
            refine ⟨HM.out.same (k.2.1.2.2.2.2 gl HM.out.lt (fun c => by have := HIn.out _ c; omega)), row_frame HKr3.out ?_ k.2.1⟩
            by_cases z : nk = 0
            · exact Or.inl z
            · refine Or.inr (fun ad e hf => ?_)
              have k1 := HIn.out _ hf
              rcases HKin.out ad e with c | c
              · exact z c
              · omega)
          have HC0 : Hid (ChL w4 w5 p (wN (wT p MT Ff) (putNs p.N m (K.take 0)))) := Lib.hid (by rw [HN0.out]; exact HCh.out)
          subst hE0
          clear hMk HMk HNo HCh HN0
          go_wp2
          go_loopw [13, 52] (fun _ i wx => ∃ k : Nat, k ≤ nk ∧ i = .int .i64 k ∧ ChL w4 wx p (wN (wT p MT Ff) (putNs p.N m (K.take k)))) (fun _ i _ => nk - (ivl i).toNat)
          case atStart => exact ⟨0, by omega, rfl, HC0.out⟩
          case round =>
            clear HC0
            obtain ⟨k, hk, rfl, hch⟩ := hrel
            obtain ⟨hmw, hrw⟩ := HRd.out wr _ hch
            obtain ⟨c1, hg⟩ := HCl.out wr _ _ _ _ hch
            have HCh := Lib.hid hch
            clear hch
            by_cases hlt : k < nk
            · obtain ⟨b, off, z, rfl, hz, cz⟩ := row_at hrw hlt
              have hbl := World.block_lt_of_cell? _ _ cz
              have hzr := HKr.out z (List.mem_of_getElem? hz)
              have hchd : ChL w4 wr.drew p (wN (wT p MT Ff) (putNs p.N m (K.take k))) := HCh.out.behind (below_drew9f wr)
              obtain ⟨w6, r6, hch6⟩ := HStep.out w4 wr.drew MT Ff k z hchd hz
              have hm6 := (HRd.out w6 _ hch6).1.get hzr
              obtain ⟨c16, _⟩ := HCl.out w6 _ _ _ _ hch6
              have HC6 := Lib.hid hch6
              obtain ⟨nd, hnd⟩ : ∃ nd, nd = (m z).getD zNd := ⟨_, rfl⟩
              have hmd : (Instr.lookup 204 (.map (some gl)) (.int .i64 z) false).run Tryz.prog wr.drew = .ok (.agg #[.int .i64 nd.id, .int .i64 nd.par, .int .i64 (nd.pl 0), .int .i64 (nd.pl 1), .int .i64 (nd.pl 2), .int .i64 (nd.pl 3), .int .i64 (nd.pl 4), .int .i64 (nd.pl 5), .int .i64 (nd.pl 6), .int .i64 (nd.pl 7), .int .i64 (nd.pl 8), .int .i64 (nd.pl 9), .int .i64 (nd.pl 10), .int .i64 (nd.pl 11), .bool nd.hid]) wr.drew := by rw [hnd]; exact (hmw.keep (below_drew9f wr)).get hzr
              have hme : (Instr.lookup 204 (.map (some gl)) (.int .i64 z) false).run Tryz.prog w6 = .ok (.agg #[.int .i64 nd.id, .int .i64 nd.par, .int .i64 (nd.pl 0), .int .i64 (nd.pl 1), .int .i64 (nd.pl 2), .int .i64 (nd.pl 3), .int .i64 (nd.pl 4), .int .i64 (nd.pl 5), .int .i64 (nd.pl 6), .int .i64 (nd.pl 7), .int .i64 (nd.pl 8), .int .i64 (nd.pl 9), .int .i64 (nd.pl 10), .int .i64 (nd.pl 11), .bool nd.hid]) w6 := by rw [hnd]; exact hm6
              rw [← hnd] at r6
              have SA := Lib.hid (And.intro c1 hmd)
              have SE := Lib.hid (And.intro c16 hme)
              have HBl : Hid (∀ W, (Instr.build 215 #[(0, .agg (lM nd.pl).toArray), (1, .bool nd.hid)]).run Tryz.prog W = .ok (.agg (cBd (nd.pl, nd.hid)).toArray) W) := Lib.hid (bld_body nd.pl nd.hid)
              obtain ⟨XB, hXB⟩ : ∃ XB, XB = cBd (nd.pl, nd.hid) := ⟨_, rfl⟩
              rw [← hXB] at r6 HBl
              have hbl2 := HBl.out
              have k0 : (0 : Int) ≤ (k : Int) := by omega
              have k1 : (k : Int) < (nk : Int) := by omega
              clear hrw hmw hz hzr hchd hch6 hm6 c16 hnd hmd hme hXB HCh c1 HBl
              go_wp2
              refine wp_region_held_drew (S := fun w' => w'.cell? ⟨g, 1, none⟩ = some (.map (some gn)) ∧ (Instr.lookup 204 (.map (some gl)) (.int .i64 z) false).run Tryz.prog w' = .ok (.agg #[.int .i64 nd.id, .int .i64 nd.par, .int .i64 (nd.pl 0), .int .i64 (nd.pl 1), .int .i64 (nd.pl 2), .int .i64 (nd.pl 3), .int .i64 (nd.pl 4), .int .i64 (nd.pl 5), .int .i64 (nd.pl 6), .int .i64 (nd.pl 7), .int .i64 (nd.pl 8), .int .i64 (nd.pl 9), .int .i64 (nd.pl 10), .int .i64 (nd.pl 11), .bool nd.hid]) w') (by kernel_rfl) (SA.out) (fun hHeld => ?_)
              refine tk 0 hHeld ?_
              refine tk 1 hHeld ?_
              refine tk 2 hHeld ?_
              refine tk 3 hHeld ?_
              refine tk 4 hHeld ?_
              refine tk 5 hHeld ?_
              refine tk 6 hHeld ?_
              refine tk 7 hHeld ?_
              refine wpAnyH_take (i := 8) (v := (.agg (lM nd.pl).toArray)) rfl (by kernel_rfl) (by kernel_rfl) (by kernel_rfl) (fun _ _ _ h => h) (yieldsIf_field (by rfl) 205 _ 2 rfl (.agg #[.int .i64 nd.id, .int .i64 nd.par, .int .i64 (nd.pl 0), .int .i64 (nd.pl 1), .int .i64 (nd.pl 2), .int .i64 (nd.pl 3), .int .i64 (nd.pl 4), .int .i64 (nd.pl 5), .int .i64 (nd.pl 6), .int .i64 (nd.pl 7), .int .i64 (nd.pl 8), .int .i64 (nd.pl 9), .int .i64 (nd.pl 10), .int .i64 (nd.pl 11), .bool nd.hid]) _ rfl (fld_place _ _ _ _)) hHeld ?_
              simp only [Act.put, List.getElem_toArray, List.getElem_cons_zero, List.getElem_cons_succ, List.setIfInBounds_toArray, List.set_cons_zero, List.set_cons_succ]
              refine tk 9 hHeld ?_
              refine tk 10 hHeld ?_
              refine tk 11 hHeld ?_
              refine wpAnyH_take (i := 12) (v := (.bool nd.hid)) rfl (by kernel_rfl) (by kernel_rfl) (by kernel_rfl) (fun _ _ _ h => h) (yieldsIf_field (by rfl) 205 _ 3 rfl (.agg #[.int .i64 nd.id, .int .i64 nd.par, .int .i64 (nd.pl 0), .int .i64 (nd.pl 1), .int .i64 (nd.pl 2), .int .i64 (nd.pl 3), .int .i64 (nd.pl 4), .int .i64 (nd.pl 5), .int .i64 (nd.pl 6), .int .i64 (nd.pl 7), .int .i64 (nd.pl 8), .int .i64 (nd.pl 9), .int .i64 (nd.pl 10), .int .i64 (nd.pl 11), .bool nd.hid]) _ rfl (fld_hid _ _ _ _)) hHeld ?_
              simp only [Act.put, List.getElem_toArray, List.getElem_cons_zero, List.getElem_cons_succ, List.setIfInBounds_toArray, List.set_cons_zero, List.set_cons_succ]
              refine wpAnyH_take (i := 13) (v := (.agg XB.toArray)) rfl (by kernel_rfl) (by kernel_rfl) (by kernel_rfl) (fun _ _ _ h => h) (yieldsIf_bld (by rfl) 215 _ _ rfl (.agg (lM nd.pl).toArray) (.bool nd.hid) (.agg XB.toArray) rfl rfl hbl2) hHeld ?_
              simp only [Act.put, List.getElem_toArray, List.getElem_cons_zero, List.getElem_cons_succ, List.setIfInBounds_toArray, List.set_cons_zero, List.set_cons_succ]
              refine rd 14 (fun K hK => ?_)
              go_simp
              refine hK.out _ _ SE.out (fun hHeld => ?_)
              clear hK
              refine wpAnyH_done (by kernel_rfl) ?_ _
              go_wp2
              go_roundw
              case rel => exact ⟨k + 1, by omega, by go_num, HC6.out⟩
              case measure => simp [ivl] <;> omega
            · obtain rfl : k = nk := by omega
              have e0 : K.take k = K := List.take_of_length_le (by rw [HNk.out]; exact Nat.le_refl _)
              rw [e0] at HCh
              have HMa := Lib.hid (HMk4.out wr HCh.out HKr3.out HKin.out)
              have k1 : ¬ (k : Int) < (k : Int) := by omega
              clear e0 hrw hmw hlt
              go_wp2_with fail
              refine HMa.out.mono ?_
              rintro e w7 ⟨rfl, hq⟩
              have HQ := Lib.hid hq
              clear hq HMa
              go_wp2
              go_ret
              exact ⟨rfl, HQ.out⟩
        · have HQ := Lib.hid (HNo.out w4 w5 Ff HB.out (by trivial) hE0 HCh.out)
          clear HCh HNo HMk
          go_wp2
          go_ret
          exact ⟨rfl, HQ.out⟩
end
end Go.Proofs.YthhfcedhbfandaaGreat
