/-
  The landed flow: Put.
-/
import Derived.Test.YtdndafdninnjfaaGreatMLlp
namespace Go.Proofs.YtdndafdninnjfaaGreat
open Go.RowKit

/-- other bodies -/
def wN (p : Wp) (N' : Int → Option BD) : Wp := { p with N := N' }
theorem fld_place (a b : Int) (M : Nat → Int) (h : Bool) (W : World) : (Instr.field 59 (.agg #[.int .i64 a, .int .i64 b, .int .i64 (M 0), .int .i64 (M 1), .int .i64 (M 2), .int .i64 (M 3), .int .i64 (M 4), .int .i64 (M 5), .int .i64 (M 6), .int .i64 (M 7), .int .i64 (M 8), .int .i64 (M 9), .int .i64 (M 10), .int .i64 (M 11), .bool h]) 2).run Tryz.prog W = .ok (.agg (lM M).toArray) W := by kernel_rfl
theorem fld_hid (a b : Int) (M : Nat → Int) (h : Bool) (W : World) : (Instr.field 59 (.agg #[.int .i64 a, .int .i64 b, .int .i64 (M 0), .int .i64 (M 1), .int .i64 (M 2), .int .i64 (M 3), .int .i64 (M 4), .int .i64 (M 5), .int .i64 (M 6), .int .i64 (M 7), .int .i64 (M 8), .int .i64 (M 9), .int .i64 (M 10), .int .i64 (M 11), .bool h]) 3).run Tryz.prog W = .ok (.bool h) W := by kernel_rfl
theorem bld_body (M : Nat → Int) (b : Bool) (W : World) : (Instr.build 97 #[(0, .agg (lM M).toArray), (1, .bool b)]).run Tryz.prog W = .ok (.agg (cBd (M, b)).toArray) W := by kernel_rfl
theorem keysN_len (l : List Nd) : (keysN l).length ≤ l.length := by
  unfold keysN
  have := cmpS_len (l.map Nd.id)
  rwa [List.length_map] at this
theorem keysN_rg {l : List Nd} (hl : ∀ n ∈ l, Rg n.id ∧ Rg n.par) : Rgs (keysN l) := fun x hx => by
  obtain ⟨n, hn, e⟩ := List.mem_map.1 (mem_cmpS.1 hx)
  rw [← e]
  exact (hl n hn).1
theorem wnt_rg {l : List Nd} (hl : ∀ n ∈ l, Rg n.id ∧ Rg n.par) (x : Int) : Rg (wnt (lastF l) x) := by
  unfold wnt
  cases q : lastF l x with
  | none => exact ⟨by show _ ≤ (if (0 : Int) < -1 then (-1 : Int) else 0); simp, by show (if (0 : Int) < -1 then (-1 : Int) else 0) ≤ _; simp⟩
  | some n =>
    have := (hl n (last_id q).2).2
    show Rg (if n.par < -1 then -1 else n.par)
    unfold Rg at this ⊢
    split <;> omega
section
variable {w : World} {p : Wp} {D : FD}
set_option maxHeartbeats 8000000 in
set_option maxRecDepth 100000 in
theorem lfput_any (hD : DOk D) (hL : LI D p) (h : LW w p) {a : Option Addr} {n cap : Nat} {l : List Nd} (row : NRow w a n l) (hl : ∀ m ∈ l, Rg m.id ∧ Rg m.par) (hDl : D.L.length ≤ 300) (hnl : n ≤ 300) :
    Calls Tryz.prog 15 #[.pointer (some ⟨p.g, 0, none⟩), .slice a n cap] w fun e w' => e = .returned (.int .i64 (putFE D l)) ∧ ∃ q, q.g = p.g ∧ ChL w w' p q ∧ LI (putFD D l) q := by
  have hbig := row.2.1
  have hmm := @run_makeMap Tryz.prog
  have hln := row.1
  have HLen := Lib.hid row.1
  have HRow : Hid (∀ u, Below w.heap.size w u → NRow u a n l) := Lib.hid (fun u q => row.keep q)
  have HRi : Hid (∀ u, Below w.heap.size w u → Calls Tryz.prog 33 #[.slice a n cap] u fun e w' => e = .returned (.bool (!l.any badN)) ∧ Below u.heap.size u w') := Lib.hid (fun u q => lfright_any a n cap l u (row.keep q))
  have HStill : Hid (∀ u, Below w.heap.size w u → l.any badN = true → putFE D l = 1 ∧ ∃ q, q.g = p.g ∧ ChL w u p q ∧ LI (putFD D l) q) := Lib.hid (fun u q hb => by
    have h1 : putFE D l = 1 := by unfold putFE; rw [if_pos hb]
    refine ⟨h1, p, rfl, ChL.still h q, ?_⟩
    unfold putFD
    rw [if_neg (by rw [h1]; omega)]
    exact hL)
  have HPut : Hid (∀ u gl j nd, Below w.heap.size w u → MF nK u gl (lastF (l.take j)) → w.heap.size ≤ gl → l[j]? = some nd → ∃ w2, (Instr.mapUpdate 90 (.map (some gl)) (.int .i64 nd.id) (.agg (cNd nd).toArray)).run Tryz.prog u = .ok () w2 ∧ MF nK w2 gl (lastF (l.take (j + 1))) ∧ Below w.heap.size w w2) := Lib.hid (fun u gl j nd hb hm hg hj => by
    obtain ⟨w2, r2, m2, g2⟩ := hm.put (hl nd (List.mem_of_getElem? hj)).1 nd (l.map Nd.id) (fun y hy => by
      unfold upm at hy
      by_cases c : y = nd.id
      · rw [c]; exact List.mem_map.2 ⟨nd, List.mem_of_getElem? hj, rfl⟩
      · rw [if_neg c, last_mem] at hy
        obtain ⟨m, hm, e⟩ := List.mem_map.1 hy
        exact List.mem_map.2 ⟨m, List.mem_of_mem_take hm, e⟩) (by rw [List.length_map]; omega)
    refine ⟨w2, r2, by rw [last_step hj]; exact m2, ⟨g2.os.trans hb.os, g2.tape.trans hb.tape, g2.output.trans hb.output, Nat.le_trans hb.size g2.size, fun q hq => (g2.block q (Nat.lt_of_lt_of_le hq hb.size) (fun e => by injection e with e; omega)).trans (hb.block q hq)⟩⟩)
  have HSrt : Hid (∀ u gl, MF nK u gl (lastF l) → Calls Tryz.prog 23 #[.func (.func 59) #[] #[.pointer (some ⟨u.heap.size, 0, none⟩)]] (u.alloc (.cells #[.map (some gl)] 90)) fun e w' => ∃ v, e = .returned v ∧ OwnD w' u.heap.size v (keysN l).length (keysN l) ∧ Below u.heap.size u w') := Lib.hid (fun u gl hm => sortedN9 hm (keysN l) (cmpS_up _) (fun z => ⟨fun q => ⟨keysN_rg hl z q, mem_keys.1 q⟩, fun q => mem_keys.2 q.2⟩))
  have HMs : Hid (∀ u gl ka nk kc, Below w.heap.size w u → MF nK u gl (lastF l) → Row u ka nk (keysN l) → nk ≤ 1000 → Calls Tryz.prog 35 #[.pointer (some ⟨p.g, 0, none⟩), .slice ka nk kc, .map (some gl)] u fun e w' => ∃ v1 v2, e = .returned (.tuple #[v1, v2]) ∧ OwnL w' u.heap.size v1 (toL p.T (lastF l) (keysN l)) ∧ OwnL w' u.heap.size v2 (fromL p.T (lastF l) (keysN l)) ∧ Below u.heap.size u w') := Lib.hid (fun u gl ka nk kc q hm hr hk => lfmoves_any (h.keep q) hm hr hk (keysN_rg hl))
  have hTl := hL.len
  have hkl : (keysN l).length ≤ 300 := by have := keysN_len l; omega
  have HMv : Hid (∀ u base v1 v2, Below w.heap.size w u → w.heap.size ≤ base → OwnL u base v1 (toL p.T (lastF l) (keysN l)) → OwnL u base v2 (fromL p.T (lastF l) (keysN l)) → l.any badN = false → Calls Tryz.prog 36 #[.pointer (some ⟨p.g, 0, none⟩), v1, v2] u fun e w' => e = .returned (.int .i64 (putFE D l)) ∧ ∃ Ff, ChL u w' p (wT p (movT p.T (toL p.T (lastF l) (keysN l)) (fromL p.T (lastF l) (keysN l))) Ff)) := Lib.hid (fun u base v1 v2 q hbs o1 o2 hb => by
    obtain ⟨a1, c1, e1, _, _, r1⟩ := o1.row cLk_len
    obtain ⟨a2, c2, e2, _, _, r2⟩ := o2.row cLk_len
    have hmv := hL.moves hD hb
    have hlt1 : ∀ ad, a1 = some ad → (toL p.T (lastF l) (keysN l)).length = 0 ∨ (base ≤ ad.block ∧ ad.block < u.heap.size) := fun ad e => by
      by_cases z : (toL p.T (lastF l) (keysN l)).length = 0
      · exact Or.inl z
      · exact Or.inr (o1.lt ad.block (by rw [e1, e]; rfl))
    have hlt2 : ∀ ad, a2 = some ad → (fromL p.T (lastF l) (keysN l)).length = 0 ∨ (base ≤ ad.block ∧ ad.block < u.heap.size) := fun ad e => by
      by_cases z : (fromL p.T (lastF l) (keysN l)).length = 0
      · exact Or.inl z
      · exact Or.inr (o2.lt ad.block (by rw [e2, e]; rfl))
    have hl1 : (toL p.T (lastF l) (keysN l)).length ≤ (keysN l).length := List.length_filterMap_le _ _
    have hl2 : (fromL p.T (lastF l) (keysN l)).length ≤ (keysN l).length := List.length_filterMap_le _ _
    rw [e1, e2]
    have hc := lfmove_any (cap := c1) (cap' := c2) (h.keep q) hL.wf r1 (by
      by_cases z : (toL p.T (lastF l) (keysN l)).length = 0
      · exact Or.inl z
      · refine Or.inr (fun ad e hf => ?_)
        have k1 := h.inb _ hf
        rcases hlt1 ad e with k | k
        · exact z k
        · omega) (fun lk hlk => by
      obtain ⟨k1, _, k3⟩ := mem_to.1.1 hlk
      exact ⟨keysN_rg hl _ k1, by rw [k3]; exact wnt_rg hl _⟩) r2 (by
      by_cases z : (fromL p.T (lastF l) (keysN l)).length = 0
      · exact Or.inl z
      · refine Or.inr (fun ad e hf => ?_)
        have k1 := h.inb _ hf
        rcases hlt2 ad e with k | k
        · exact z k
        · omega) (fun lk hlk => by
      obtain ⟨k1, _, k3⟩ := mem_to.2.1 hlk
      exact ⟨keysN_rg hl _ k1, by rw [k3]; exact hL.parMR hD _⟩) (fun ad e => (hlt2 ad e).imp_right And.right) (by omega)
    refine hc.mono ?_
    rintro e w' ⟨rfl, hch⟩
    exact ⟨by rw [hmv.1], hch⟩)
  have HNo : Hid (∀ u5 u Ff, Below w.heap.size w u5 → l.any badN = false → putFE D l ≠ 0 → ChL u5 u p (wT p (movT p.T (toL p.T (lastF l) (keysN l)) (fromL p.T (lastF l) (keysN l))) Ff) → ∃ q, q.g = p.g ∧ ChL w u p q ∧ LI (putFD D l) q) := Lib.hid (fun u5 u Ff q hb h0 hch => by
    have hmv := hL.moves hD hb
    refine ⟨wT p (movT p.T (toL p.T (lastF l) (keysN l)) (fromL p.T (lastF l) (keysN l))) Ff, rfl, (ChL.still h q).join hch, ?_⟩
    unfold putFD
    rw [if_neg h0]
    exact hL.putNo hmv.2.1 (hmv.2.2.2 h0))
  have HStep : Hid (∀ u5 u T Ff j z, ChL u5 u p (wN (wT p T Ff) (putNs p.N (lastF l) ((keysN l).take j))) → (keysN l)[j]? = some z → ∃ w2, (Instr.mapUpdate 63 (.map (some p.gn)) (.int .i64 z) (.agg (cBd (((lastF l z).getD zNd).pl, ((lastF l z).getD zNd).hid)).toArray)).run Tryz.prog u = .ok () w2 ∧ ChL u5 w2 p (wN (wT p T Ff) (putNs p.N (lastF l) ((keysN l).take (j + 1))))) := Lib.hid (fun u5 u T Ff j z k hz => by
    obtain ⟨w2, r2, m2, g2⟩ := k.1.nod.put (keysN_rg hl z (List.mem_of_getElem? hz)) (((lastF l z).getD zNd).pl, ((lastF l z).getD zNd).hid) (D.L.map Nd.id ++ keysN l) (fun y hy => by
      unfold upm at hy
      by_cases c : y = z
      · rw [c]; exact List.mem_append_right _ (List.mem_of_getElem? hz)
      · rw [if_neg c] at hy
        have hy2 : (putNs p.N (lastF l) ((keysN l).take j) y).isSome = true := hy
        unfold putNs at hy2
        by_cases d : y ∈ (keysN l).take j
        · exact List.mem_append_right _ (List.mem_of_mem_take d)
        · rw [if_neg d, hL.nodS] at hy2
          exact List.mem_append_left _ (el_id.1 hy2)) (by rw [List.length_append, List.length_map]; omega)
    refine ⟨w2, r2, ?_⟩
    rw [putNs_step hz]
    exact k.join (k.1.setN m2 g2))
  have HMk : Hid (∀ u5 u Ff ka nk kc, Below w.heap.size w u5 → l.any badN = false → putFE D l = 0 → ChL u5 u p (wN (wT p (movT p.T (toL p.T (lastF l) (keysN l)) (fromL p.T (lastF l) (keysN l))) Ff) (putNs p.N (lastF l) (keysN l))) → Row u5 ka nk (keysN l) → (∀ ad, ka = some ad → nk = 0 ∨ w.heap.size ≤ ad.block) → Calls Tryz.prog 26 #[.pointer (some ⟨p.g, 0, none⟩), .slice ka nk kc] u fun e w' => e = .returned (.tuple #[]) ∧ ∃ q, q.g = p.g ∧ ChL w w' p q ∧ LI (putFD D l) q) := Lib.hid (fun u5 u Ff ka nk kc q hb h0 k hr hka => by
    have hmv := hL.moves hD hb
    have hnk : nk = (keysN l).length := hr.1.symm
    have haw : Aw (footL p) ka nk := by
      by_cases z : nk = 0
      · exact Or.inl z
      · refine Or.inr (fun ad e hf => ?_)
        have := h.inb _ hf
        rcases hka ad e with c | c
        · exact z c
        · omega
    have hinb : ∀ ad, ka = some ad → nk = 0 ∨ ad.block < u5.heap.size := fun ad e => by
      rcases hr.2.2 with c | ⟨b, off, e2, hc⟩
      · exact Or.inl c
      · by_cases z : nk = 0
        · exact Or.inl z
        · rw [e] at e2
          injection e2 with e2
          rw [e2]
          exact Or.inr (World.block_lt_of_cell? _ _ (hc 0 (by omega)))
    have hr2 := row_frame hr haw k.2.1
    refine (lfmark_any (cap := kc) k.1 (by omega) hr2 (by
      by_cases z : nk = 0
      · exact Or.inl z
      · refine Or.inr (fun ad e hf => ?_)
        rcases k.2.2 _ hf with c | c
        · rcases haw with d | d
          · exact z d
          · exact d ad e c
        · rcases hinb ad e with d | d
          · exact z d
          · omega) (keysN_rg hl) (D.L.map Nd.id) (fun y hy => by
      have hy2 : (p.M y).isSome = true := hy
      rw [hL.mrk] at hy2
      exact el_id.1 hy2.1) (by rw [List.length_map]; omega)).mono ?_
    rintro e w' ⟨rfl, hch⟩
    refine ⟨rfl, mkP (wN (wT p (movT p.T (toL p.T (lastF l) (keysN l)) (fromL p.T (lastF l) (keysN l))) Ff) (putNs p.N (lastF l) (keysN l))) (keysN l), rfl, ((ChL.still h q).join k).join hch, ?_⟩
    exact hL.put hD h0 hmv.2.1 (hmv.2.2.1 h0))
  have HIn : Hid (∀ b, footL p b → b < w.heap.size) := Lib.hid h.inb
  have HN0 : Hid (∀ T Ff, wN (wT p T Ff) (putNs p.N (lastF l) ((keysN l).take 0)) = wT p T Ff) := Lib.hid (fun T Ff => by
    unfold wN
    rw [List.take_zero, show putNs p.N (lastF l) [] = (wT p T Ff).N from by funext x; unfold putNs; rw [if_neg (by simp)]; rfl])
  have HCl : Hid (∀ u u5 T Ff N', ChL u5 u p (wN (wT p T Ff) N') → u.cell? ⟨p.g, 1, none⟩ = some (.map (some p.gn)) ∧ p.g < u.heap.size) := Lib.hid (fun u u5 T Ff N' k => ⟨k.1.cells.2.1, k.1.cells.2.2.2.2.2⟩)
  obtain ⟨K, hK⟩ : ∃ K, K = keysN l := ⟨_, rfl⟩
  obtain ⟨m, hm⟩ : ∃ m, m = lastF l := ⟨_, rfl⟩
  obtain ⟨E, hE⟩ : ∃ E, E = putFE D l := ⟨_, rfl⟩
  obtain ⟨bad, hbad⟩ : ∃ bad, bad = l.any badN := ⟨_, rfl⟩
  rw [← hK] at HSrt HMs HMv HNo HStep HMk HN0 hkl
  rw [← hm] at HSrt HMs HMv HNo HStep HMk HN0
  rw [← hE] at HStill HMv HNo HMk ⊢
  rw [← hbad] at HRi HStill HMv HNo HMk
  have HKr : Hid (Rgs K) := Lib.hid (by rw [hK]; exact keysN_rg hl)
  have HMe := Lib.hid hm
  obtain ⟨MT, hMT⟩ : ∃ MT, MT = movT p.T (toL p.T m K) (fromL p.T m K) := ⟨_, rfl⟩
  rw [← hMT] at HMv HNo HMk
  obtain ⟨g, hge⟩ : ∃ g, g = p.g := ⟨_, rfl⟩
  obtain ⟨gn, hne⟩ : ∃ gn, gn = p.gn := ⟨_, rfl⟩
  rw [← hge] at HMs HMv HMk HCl HStill HNo ⊢
  rw [← hne] at HStep HCl
  clear h row hL hD hDl hl hTl hK hm hE hbad hMT hge hne hln
  go_enter Tryz.func15, Tryz.ntmps15
  go_wp2_with fail
  refine (HRi.out w (Below.refl _ _)).mono ?_
  rintro e w1 ⟨rfl, b1⟩
  have HB1 := Lib.hid b1
  clear b1 HRi
  cases bad with
  | true =>
    obtain ⟨h1, h2⟩ := HStill.out w1 HB1.out rfl
    have HE1 := Lib.hid h1
    have HQ := Lib.hid h2
    clear HStill h1 h2
    go_wp2
    go_ret
    exact ⟨by rw [HE1.out] <;> rfl, HQ.out⟩
  | false =>
    have hal : Below w1.heap.size w1 (w1.alloc (.map #[] 0)) := alloc_below _ _
    have HM0 : Hid (MF nK (w1.alloc (.map #[] 0)) w1.heap.size (lastF (l.take 0)) ∧ Below w.heap.size w (w1.alloc (.map #[] 0)) ∧ w.heap.size ≤ w1.heap.size ∧ w1.heap.size < (w1.alloc (.map #[] 0)).heap.size) := Lib.hid ⟨by rw [List.take_zero]; exact MF.new nK w1, bthen HB1.out hal, HB1.out.size, by simp⟩
    clear HStill hal HB1
    go_upto_region 4 with fail
    refine fin (fun W => MF nK W w1.heap.size (lastF (l.take 0)) ∧ Below w.heap.size w W ∧ w.heap.size ≤ w1.heap.size ∧ w1.heap.size < W.heap.size) HM0.out ?_
    obtain ⟨gl, hgl⟩ : ∃ gl, gl = w1.heap.size := ⟨_, rfl⟩
    rw [← hgl]
    rintro W ⟨hm0, hb0, hg0, hgw⟩
    have HM := Lib.hid hm0
    have HB := Lib.hid hb0
    clear HM0 hgl hm0 hb0 hgw
    go_wp2
    go_loopw [7, 24] (fun _ i wr => ∃ j : Nat, j ≤ n ∧ i = .int .i64 j ∧ MF nK wr gl (lastF (l.take j)) ∧ Below w.heap.size w wr) (fun _ i _ => n - (ivl i).toNat)
    case atStart => exact ⟨0, by omega, rfl, HM.out, HB.out⟩
    case round =>
      clear HM HB
      obtain ⟨j, hj, rfl, hm1, hb⟩ := hrel
      have HM := Lib.hid hm1
      have HB := Lib.hid hb
      have hrw := HRow.out wr hb
      clear hm1 hb
      by_cases hlt : j < n
      · obtain ⟨b, off, nd, rfl, hbl, hx, hr⟩ := hrw.at_ hlt
        have HRg := Lib.hid hr
        have HNF := Lib.hid (nf_any nd)
        have hal : Below wr.heap.size wr (wr.alloc (.cells (cNd zNd).toArray 59)) := alloc_below _ _
        have hbs : Below wr.heap.size wr ((wr.alloc (.cells (cNd zNd).toArray 59)).setCells wr.heap.size 0 (cNd nd)) := below_setCells (cNd nd) hal (Nat.le_refl _)
        have HTh : Hid ((wr.alloc (.cells (cNd zNd).toArray 59)).there wr.heap.size 0 (cNd nd).toArray.size) := Lib.hid (blk_there (Blk.new wr _ _) (by rw [List.size_toArray]; exact Nat.le_refl 15))
        have HK : Hid (Blk ((wr.alloc (.cells (cNd zNd).toArray 59)).setCells wr.heap.size 0 (cNd nd)) wr.heap.size 59 (cNd nd).toArray ∧ Below wr.heap.size wr ((wr.alloc (.cells (cNd zNd).toArray 59)).setCells wr.heap.size 0 (cNd nd))) := Lib.hid ⟨blk_over (Blk.new wr _ _) rfl, hbs⟩
        have HC0 : Hid (∀ W gg, Blk W gg 59 (cNd nd).toArray → W.cell? ⟨gg, 0, none⟩ = some (.int .i64 nd.id)) := Lib.hid (fun W gg k => k.cell 0)
        have HPu := Lib.hid (fun u => HPut.out u gl j nd)
        obtain ⟨XM, hXM⟩ : ∃ XM, XM = cNd nd := ⟨_, rfl⟩
        obtain ⟨y, hy⟩ : ∃ y, y = nd.id := ⟨_, rfl⟩
        rw [← hXM] at HRg HNF HTh HK HC0 HPu
        rw [← hy] at HC0 HPu
        have HX := Lib.hid hx
        have j0 : (0 : Int) ≤ (j : Int) := by omega
        have j1 : (j : Int) < (n : Int) := by omega
        clear hrw hr hx hXM hy hal hbs
        go_upto_region 7 with (first | refine wpList_load_mid rfl 59 (.tmp 26) rfl b (off + j * 15) rfl XM _ HRg.out Tryz.underlying59 rfl HNF.out.size ?_ | refine wpList_store_mid rfl 59 (.tmp 7) (.tmp 27) rfl wr.heap.size 0 XM.toArray rfl rfl HTh.out HNF.out.sizea HNF.out.onea ?_)
        refine fin (fun W => Blk W wr.heap.size 59 XM.toArray ∧ Below wr.heap.size wr W) HK.out ?_
        clear HK HTh HRg hbl
        obtain ⟨g7, hg7⟩ : ∃ g7, g7 = wr.heap.size := ⟨_, rfl⟩
        rw [← hg7]
        rintro W2 ⟨k7, hb7⟩
        have c7 := HC0.out W2 g7 k7
        have HR7 : Hid (W2.rangeAt g7 0 XM) := Lib.hid (blk_whole k7)
        have z7 := k7.lt
        rw [hg7] at hb7
        obtain ⟨w3, r3, m3, b3⟩ := HPu.out W2 (bthen HB.out hb7) (HM.out.keep hb7) hg0 HX.out
        have HM3 := Lib.hid m3
        have HB3 := Lib.hid b3
        clear HPu hb7 k7 m3 b3 hg7 HM HB
        go_wp2_with (refine wpList_load_mid rfl 59 (.tmp 7) rfl g7 0 rfl XM _ HR7.out Tryz.underlying59 rfl HNF.out.size ?_)
        go_roundw
        case rel => exact ⟨j + 1, by omega, by go_num, HM3.out, HB3.out⟩
        case measure => simp [ivl] <;> omega
      · obtain rfl : j = n := by omega
        have e0 : l.take j = l := List.take_of_length_le (by rw [HLen.out]; exact Nat.le_refl _)
        rw [e0, ← HMe.out] at HM
        have j1 : ¬ (j : Int) < (j : Int) := by omega
        have HKy := Lib.hid (keysN9 (some gl) wr)
        have HSo := Lib.hid (HSrt.out wr gl HM.out)
        clear e0 hrw hlt HPut HSrt HRow HLen
        go_wp2_with fail
        refine HKy.out.mono ?_
        rintro e w2 ⟨rfl, rfl⟩
        go_wp2_with fail
        refine HSo.out.mono ?_
        rintro e w3 ⟨v, rfl, hown, b3⟩
        obtain ⟨ka, kc, hkv, hkr⟩ := hown.row
        have hkin : ∀ ad, ka = some ad → K.length = 0 ∨ w.heap.size ≤ ad.block := fun ad e => by
          by_cases z : K.length = 0
          · exact Or.inl z
          · have k1 := (World.ownsRow.lt hown ad.block (by rw [hkv, e]; rfl)).1
            have k2 := HB.out.size
            exact Or.inr (by omega)
        subst hkv
        obtain ⟨nk, hnk⟩ : ∃ nk, nk = K.length := ⟨_, rfl⟩
        rw [← hnk] at hkr hkin hkl ⊢
        have HNk := Lib.hid hnk
        have HKin := Lib.hid hkin
        replace HB := Lib.hid (bthen HB.out b3)
        replace HM := Lib.hid (HM.out.keep b3)
        have HKr3 := Lib.hid hkr
        have hkbig := hkr.2.1
        have HMo := Lib.hid (HMs.out w3 gl ka nk kc HB.out HM.out hkr (by omega))
        clear hown hkr hkin b3 HKy HSo HMs hnk
        go_wp2_with fail
        refine HMo.out.mono ?_
        rintro e w4 ⟨v1, v2, rfl, o1, o2, b4⟩
        have hs3 : w.heap.size ≤ w3.heap.size := HB.out.size
        replace HB := Lib.hid (bthen HB.out b4)
        replace HM := Lib.hid (HM.out.keep b4)
        replace HKr3 := Lib.hid (row_keep HKr3.out b4)
        have HMv4 := Lib.hid (HMv.out w4 w3.heap.size v1 v2 HB.out hs3 o1 o2 (by trivial))
        clear o1 o2 b4 HMo HMv
        go_wp2_with fail
        refine HMv4.out.mono ?_
        rintro e w5 ⟨rfl, Ff, hch⟩
        have HCh := Lib.hid hch
        clear hch HMv4
        by_cases hE0 : E = 0
        · have hMk := fun u ka' nk' kc' => HMk.out w4 u Ff ka' nk' kc' HB.out (by trivial) hE0
          have HMk4 := Lib.hid (fun u => hMk u ka nk kc)
          have HRd : Hid (∀ u N', ChL w4 u p (wN (wT p MT Ff) N') → MF nK u gl m ∧ Row u ka nk K) := Lib.hid (fun u N' k => by
            refine ⟨HM.out.same (k.2.1.2.2.2.2 gl HM.out.lt (fun c => by have := HIn.out _ c; omega)), row_frame HKr3.out ?_ k.2.1⟩
            by_cases z : nk = 0
            · exact Or.inl z
            · refine Or.inr (fun ad e hf => ?_)
              have k1 := HIn.out _ hf
              rcases HKin.out ad e with c | c
              · exact z c
              · omega)
          have HC0 : Hid (ChL w4 w5 p (wN (wT p MT Ff) (putNs p.N m (K.take 0)))) := Lib.hid (by rw [HN0.out]; exact HCh.out)
          subst hE0
          clear hMk HMk HNo HCh HN0
          go_wp2
          go_loopw [13, 52] (fun _ i wx => ∃ k : Nat, k ≤ nk ∧ i = .int .i64 k ∧ ChL w4 wx p (wN (wT p MT Ff) (putNs p.N m (K.take k)))) (fun _ i _ => nk - (ivl i).toNat)
          case atStart => exact ⟨0, by omega, rfl, HC0.out⟩
          case round =>
            clear HC0
            obtain ⟨k, hk, rfl, hch⟩ := hrel
            obtain ⟨hmw, hrw⟩ := HRd.out wr _ hch
            obtain ⟨c1, hg⟩ := HCl.out wr _ _ _ _ hch
            have HCh := Lib.hid hch
            clear hch
            by_cases hlt : k < nk
            · obtain ⟨b, off, z, rfl, hz, cz⟩ := row_at hrw hlt
              have hbl := World.block_lt_of_cell? _ _ cz
              have hzr := HKr.out z (List.mem_of_getElem? hz)
              have hchd : ChL w4 wr.drew p (wN (wT p MT Ff) (putNs p.N m (K.take k))) := HCh.out.behind (below_drew9f wr)
              obtain ⟨w6, r6, hch6⟩ := HStep.out w4 wr.drew MT Ff k z hchd hz
              have hm6 := (HRd.out w6 _ hch6).1.get hzr
              obtain ⟨c16, _⟩ := HCl.out w6 _ _ _ _ hch6
              have HC6 := Lib.hid hch6
              obtain ⟨nd, hnd⟩ : ∃ nd, nd = (m z).getD zNd := ⟨_, rfl⟩
              have hmd : (Instr.lookup 90 (.map (some gl)) (.int .i64 z) false).run Tryz.prog wr.drew = .ok (.agg #[.int .i64 nd.id, .int .i64 nd.par, .int .i64 (nd.pl 0), .int .i64 (nd.pl 1), .int .i64 (nd.pl 2), .int .i64 (nd.pl 3), .int .i64 (nd.pl 4), .int .i64 (nd.pl 5), .int .i64 (nd.pl 6), .int .i64 (nd.pl 7), .int .i64 (nd.pl 8), .int .i64 (nd.pl 9), .int .i64 (nd.pl 10), .int .i64 (nd.pl 11), .bool nd.hid]) wr.drew := by rw [hnd]; exact (hmw.keep (below_drew9f wr)).get hzr
              have hme : (Instr.lookup 90 (.map (some gl)) (.int .i64 z) false).run Tryz.prog w6 = .ok (.agg #[.int .i64 nd.id, .int .i64 nd.par, .int .i64 (nd.pl 0), .int .i64 (nd.pl 1), .int .i64 (nd.pl 2), .int .i64 (nd.pl 3), .int .i64 (nd.pl 4), .int .i64 (nd.pl 5), .int .i64 (nd.pl 6), .int .i64 (nd.pl 7), .int .i64 (nd.pl 8), .int .i64 (nd.pl 9), .int .i64 (nd.pl 10), .int .i64 (nd.pl 11), .bool nd.hid]) w6 := by rw [hnd]; exact hm6
              rw [← hnd] at r6
              have SA := Lib.hid (And.intro c1 hmd)
              have SE := Lib.hid (And.intro c16 hme)
              have HBl : Hid (∀ W, (Instr.build 97 #[(0, .agg (lM nd.pl).toArray), (1, .bool nd.hid)]).run Tryz.prog W = .ok (.agg (cBd (nd.pl, nd.hid)).toArray) W) := Lib.hid (bld_body nd.pl nd.hid)
              obtain ⟨XB, hXB⟩ : ∃ XB, XB = cBd (nd.pl, nd.hid) := ⟨_, rfl⟩
              rw [← hXB] at r6 HBl
              have hbl2 := HBl.out
              have k0 : (0 : Int) ≤ (k : Int) := by omega
              have k1 : (k : Int) < (nk : Int) := by omega
              clear hrw hmw hz hzr hchd hch6 hm6 c16 hnd hmd hme hXB HCh c1 HBl
              go_wp2
              refine wp_region_held_drew (S := fun w' => w'.cell? ⟨g, 1, none⟩ = some (.map (some gn)) ∧ (Instr.lookup 90 (.map (some gl)) (.int .i64 z) false).run Tryz.prog w' = .ok (.agg #[.int .i64 nd.id, .int .i64 nd.par, .int .i64 (nd.pl 0), .int .i64 (nd.pl 1), .int .i64 (nd.pl 2), .int .i64 (nd.pl 3), .int .i64 (nd.pl 4), .int .i64 (nd.pl 5), .int .i64 (nd.pl 6), .int .i64 (nd.pl 7), .int .i64 (nd.pl 8), .int .i64 (nd.pl 9), .int .i64 (nd.pl 10), .int .i64 (nd.pl 11), .bool nd.hid]) w') (by kernel_rfl) (SA.out) (fun hHeld => ?_)
              refine wpAnyH_take (i := 0) (v := ?_) rfl (by kernel_rfl) (by kernel_rfl) (by kernel_rfl) (fun _ _ _ h => h) (Or.inl ⟨by rfl, ?_⟩) hHeld ?_
              rotate_left
              · intro w hSw
                obtain ⟨s0, s1⟩ := hSw
                go_simp
                with_reducible rfl
              simp only [Act.put, List.getElem_toArray, List.getElem_cons_zero, List.setIfInBounds_toArray, List.set_cons_zero, List.set_cons_succ]
              refine wpAnyH_take (i := 1) (v := ?_) rfl (by kernel_rfl) (by kernel_rfl) (by kernel_rfl) (fun _ _ _ h => h) (Or.inl ⟨by rfl, ?_⟩) hHeld ?_
              rotate_left
              · intro w hSw
                obtain ⟨s0, s1⟩ := hSw
                go_simp
                with_reducible rfl
              simp only [Act.put, List.getElem_toArray, List.getElem_cons_zero, List.getElem_cons_succ, List.setIfInBounds_toArray, List.set_cons_zero, List.set_cons_succ]
              refine wpAnyH_take (i := 2) (v := ?_) rfl (by kernel_rfl) (by kernel_rfl) (by kernel_rfl) (fun _ _ _ h => h) (Or.inl ⟨by rfl, ?_⟩) hHeld ?_
              rotate_left
              · intro w hSw
                obtain ⟨s0, s1⟩ := hSw
                go_simp
                with_reducible rfl
              simp only [Act.put, List.getElem_toArray, List.getElem_cons_zero, List.getElem_cons_succ, List.setIfInBounds_toArray, List.set_cons_zero, List.set_cons_succ]
              refine wpAnyH_take (i := 3) (v := ?_) rfl (by kernel_rfl) (by kernel_rfl) (by kernel_rfl) (fun _ _ _ h => h) (Or.inl ⟨by rfl, ?_⟩) hHeld ?_
              rotate_left
              · intro w hSw
                obtain ⟨s0, s1⟩ := hSw
                go_simp
                with_reducible rfl
              simp only [Act.put, List.getElem_toArray, List.getElem_cons_zero, List.getElem_cons_succ, List.setIfInBounds_toArray, List.set_cons_zero, List.set_cons_succ]
              refine wpAnyH_take (i := 4) (v := ?_) rfl (by kernel_rfl) (by kernel_rfl) (by kernel_rfl) (fun _ _ _ h => h) (Or.inl ⟨by rfl, ?_⟩) hHeld ?_
              rotate_left
              · intro w hSw
                obtain ⟨s0, s1⟩ := hSw
                go_simp
                with_reducible rfl
              simp only [Act.put, List.getElem_toArray, List.getElem_cons_zero, List.getElem_cons_succ, List.setIfInBounds_toArray, List.set_cons_zero, List.set_cons_succ]
              refine wpAnyH_take (i := 5) (v := ?_) rfl (by kernel_rfl) (by kernel_rfl) (by kernel_rfl) (fun _ _ _ h => h) (Or.inl ⟨by rfl, ?_⟩) hHeld ?_
              rotate_left
              · intro w hSw
                obtain ⟨s0, s1⟩ := hSw
                go_simp
                with_reducible rfl
              simp only [Act.put, List.getElem_toArray, List.getElem_cons_zero, List.getElem_cons_succ, List.setIfInBounds_toArray, List.set_cons_zero, List.set_cons_succ]
              refine wpAnyH_take (i := 6) (v := ?_) rfl (by kernel_rfl) (by kernel_rfl) (by kernel_rfl) (fun _ _ _ h => h) (Or.inl ⟨by rfl, ?_⟩) hHeld ?_
              rotate_left
              · intro w hSw
                obtain ⟨s0, s1⟩ := hSw
                go_simp
                with_reducible rfl
              simp only [Act.put, List.getElem_toArray, List.getElem_cons_zero, List.getElem_cons_succ, List.setIfInBounds_toArray, List.set_cons_zero, List.set_cons_succ]
              refine wpAnyH_take (i := 7) (v := ?_) rfl (by kernel_rfl) (by kernel_rfl) (by kernel_rfl) (fun _ _ _ h => h) (Or.inl ⟨by rfl, ?_⟩) hHeld ?_
              rotate_left
              · intro w hSw
                obtain ⟨s0, s1⟩ := hSw
                go_simp
                with_reducible rfl
              simp only [Act.put, List.getElem_toArray, List.getElem_cons_zero, List.getElem_cons_succ, List.setIfInBounds_toArray, List.set_cons_zero, List.set_cons_succ]
              refine wpAnyH_take (i := 8) (v := (.agg (lM nd.pl).toArray)) rfl (by kernel_rfl) (by kernel_rfl) (by kernel_rfl) (fun _ _ _ h => h) (yieldsIf_field (by rfl) 59 _ 2 rfl (.agg #[.int .i64 nd.id, .int .i64 nd.par, .int .i64 (nd.pl 0), .int .i64 (nd.pl 1), .int .i64 (nd.pl 2), .int .i64 (nd.pl 3), .int .i64 (nd.pl 4), .int .i64 (nd.pl 5), .int .i64 (nd.pl 6), .int .i64 (nd.pl 7), .int .i64 (nd.pl 8), .int .i64 (nd.pl 9), .int .i64 (nd.pl 10), .int .i64 (nd.pl 11), .bool nd.hid]) _ rfl (fld_place _ _ _ _)) hHeld ?_
              simp only [Act.put, List.getElem_toArray, List.getElem_cons_zero, List.getElem_cons_succ, List.setIfInBounds_toArray, List.set_cons_zero, List.set_cons_succ]
              refine wpAnyH_take (i := 9) (v := ?_) rfl (by kernel_rfl) (by kernel_rfl) (by kernel_rfl) (fun _ _ _ h => h) (Or.inl ⟨by rfl, ?_⟩) hHeld ?_
              rotate_left
              · intro w hSw
                obtain ⟨s0, s1⟩ := hSw
                go_simp
                with_reducible rfl
              simp only [Act.put, List.getElem_toArray, List.getElem_cons_zero, List.getElem_cons_succ, List.setIfInBounds_toArray, List.set_cons_zero, List.set_cons_succ]
              refine wpAnyH_take (i := 10) (v := ?_) rfl (by kernel_rfl) (by kernel_rfl) (by kernel_rfl) (fun _ _ _ h => h) (Or.inl ⟨by rfl, ?_⟩) hHeld ?_
              rotate_left
              · intro w hSw
                obtain ⟨s0, s1⟩ := hSw
                go_simp
                with_reducible rfl
              simp only [Act.put, List.getElem_toArray, List.getElem_cons_zero, List.getElem_cons_succ, List.setIfInBounds_toArray, List.set_cons_zero, List.set_cons_succ]
              refine wpAnyH_take (i := 11) (v := ?_) rfl (by kernel_rfl) (by kernel_rfl) (by kernel_rfl) (fun _ _ _ h => h) (Or.inl ⟨by rfl, ?_⟩) hHeld ?_
              rotate_left
              · intro w hSw
                obtain ⟨s0, s1⟩ := hSw
                go_simp
                with_reducible rfl
              simp only [Act.put, List.getElem_toArray, List.getElem_cons_zero, List.getElem_cons_succ, List.setIfInBounds_toArray, List.set_cons_zero, List.set_cons_succ]
              refine wpAnyH_take (i := 12) (v := (.bool nd.hid)) rfl (by kernel_rfl) (by kernel_rfl) (by kernel_rfl) (fun _ _ _ h => h) (yieldsIf_field (by rfl) 59 _ 3 rfl (.agg #[.int .i64 nd.id, .int .i64 nd.par, .int .i64 (nd.pl 0), .int .i64 (nd.pl 1), .int .i64 (nd.pl 2), .int .i64 (nd.pl 3), .int .i64 (nd.pl 4), .int .i64 (nd.pl 5), .int .i64 (nd.pl 6), .int .i64 (nd.pl 7), .int .i64 (nd.pl 8), .int .i64 (nd.pl 9), .int .i64 (nd.pl 10), .int .i64 (nd.pl 11), .bool nd.hid]) _ rfl (fld_hid _ _ _ _)) hHeld ?_
              simp only [Act.put, List.getElem_toArray, List.getElem_cons_zero, List.getElem_cons_succ, List.setIfInBounds_toArray, List.set_cons_zero, List.set_cons_succ]
              refine wpAnyH_take (i := 13) (v := (.agg XB.toArray)) rfl (by kernel_rfl) (by kernel_rfl) (by kernel_rfl) (fun _ _ _ h => h) (yieldsIf_bld (by rfl) 97 _ _ rfl (.agg (lM nd.pl).toArray) (.bool nd.hid) (.agg XB.toArray) rfl rfl hbl2) hHeld ?_
              simp only [Act.put, List.getElem_toArray, List.getElem_cons_zero, List.getElem_cons_succ, List.setIfInBounds_toArray, List.set_cons_zero, List.set_cons_succ]
              refine wpAnyH_ready (rs := [14]) (by kernel_rfl) (by simp) ?_
              refine AllReadyH.cons rfl (fun K hK => ?_) AllReadyH.nil
              go_simp
              refine hK.out _ _ SE.out (fun hHeld => ?_)
              clear hK
              refine wpAnyH_done (by kernel_rfl) ?_ _
              go_wp2
              go_roundw
              case rel => exact ⟨k + 1, by omega, by go_num, HC6.out⟩
              case measure => simp [ivl] <;> omega
            · obtain rfl : k = nk := by omega
              have e0 : K.take k = K := List.take_of_length_le (by rw [HNk.out]; exact Nat.le_refl _)
              rw [e0] at HCh
              have HMa := Lib.hid (HMk4.out wr HCh.out HKr3.out HKin.out)
              have k1 : ¬ (k : Int) < (k : Int) := by omega
              clear e0 hrw hmw hlt
              go_wp2_with fail
              refine HMa.out.mono ?_
              rintro e w7 ⟨rfl, hq⟩
              have HQ := Lib.hid hq
              clear hq HMa
              go_wp2
              go_ret
              exact ⟨rfl, HQ.out⟩
        · have HQ := Lib.hid (HNo.out w4 w5 Ff HB.out (by trivial) hE0 HCh.out)
          clear HCh HNo HMk
          go_wp2
          go_ret
          exact ⟨rfl, HQ.out⟩
end
end Go.Proofs.YtdndafdninnjfaaGreat
