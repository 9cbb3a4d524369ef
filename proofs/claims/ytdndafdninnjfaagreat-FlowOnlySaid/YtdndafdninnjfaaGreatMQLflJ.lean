/-
  The landed flow: Run.
-/
import Derived.Test.YtdndafdninnjfaaGreatMQLflI
namespace Go.Proofs.YtdndafdninnjfaaGreat
open Go.RowKit

/-- all entries of a map go, of the walk -/
theorem wpList_clr9 {ops : Array Oper} {rest : List Oper} {op : Oper} {a : Go.Act} {w w' : World} {Q : Exit → Go.Act → World → Prop} (hgd : op.guard = none) (tm : Operand) (t : TypeId)
    (ho : op.op = .call { callee := .builtin .clear, args := #[tm], argTypes := #[t] }) (v : Value) (hm : a.eval tm = v)
    (hr : (Builtin.clear_ #[t] op.type #[v]).run Tryz.prog w = .ok (.tuple #[]) w') (h : wpList Tryz.prog ops Q rest (a.put op.dst (.tuple #[])) w') : wpList Tryz.prog ops Q (op :: rest) a w := by
  refine wpList_plain hgd fun K hK => ?_
  have h3 := hK _ _ h
  unfold Oper.wp execOp
  simp only [ho, resolve, invoke, builtin, Sem.run_bind, Sem.run_pure, Result.andThen_ok, List.map_toArray, List.map_cons, List.map_nil, hm, hr]
  exact h3
theorem lres_frame {w u u' : World} {F : Nat → Prop} {xs : List Int} {v : Value} (h : LRes w u xs v) (hin : ∀ b, F b → b < w.heap.size) (hf : Fr u u' F) : LRes w u' xs v := by
  obtain ⟨a, cap, e, hr, hn⟩ := h
  refine ⟨a, cap, e, row_frame hr ?_ hf, hn⟩
  rcases hn with c | c
  · exact Or.inl c
  · exact Or.inr (fun ad e hfb => by have := hin _ hfb; have := c ad e; omega)
theorem names_up {L : List Nd} (h : (L.map Nd.id).Nodup) : (namesN L).Pairwise (· < ·) := by
  have h1 : (namesN L).Pairwise (· ≤ ·) := sortI_up _
  have h2 : (namesN L).Nodup := (sortI_perm _).nodup_iff.2 h
  have h3 : (namesN L).Pairwise (· ≠ ·) := h2
  exact (h1.and h3).imp (fun {a b} c => by omega)
section
variable {w : World} {p : Wp} {D : FD}
theorem LI.names (hD : DOk D) (hL : LI D p) (z : Int) : z ∈ namesN D.L ↔ Rg z ∧ (p.N z).isSome = true := by
  rw [hL.nodS, mem_names]
  constructor
  · intro h
    obtain ⟨n, hn, e⟩ := el_isSome.1 h
    exact ⟨by rw [← e]; exact (hD.rg n hn).1, h⟩
  · exact And.right
/-- whom a run touches -/
theorem lftouch_chain (hD : DOk D) (hL : LI D p) (h : LW w p) (hDl : D.L.length ≤ 300) {V : World} (hV : Below w.heap.size w V) :
    V.cell? ⟨p.g, 0, none⟩ = some (.pointer (some ⟨p.gf, 0, none⟩)) ∧ V.cell? ⟨p.g, 3, none⟩ = some (.map (some p.gm)) ∧ Calls Tryz.prog 24 #[.map (some p.gm)] V fun e w1 => ∃ f, e = .returned f ∧ w1.cell? ⟨p.g, 0, none⟩ = some (.pointer (some ⟨p.gf, 0, none⟩)) ∧ w1.cell? ⟨p.g, 3, none⟩ = some (.map (some p.gm)) ∧
      Calls Tryz.prog 23 #[f] w1 fun e w2 => ∃ a n cap, e = .returned (.slice a n cap) ∧ w2.cell? ⟨p.g, 0, none⟩ = some (.pointer (some ⟨p.gf, 0, none⟩)) ∧ w2.cell? ⟨p.g, 3, none⟩ = some (.map (some p.gm)) ∧
        Calls Tryz.prog 22 #[.pointer (some ⟨p.gf, 0, none⟩), .slice a n cap] w2 fun e w3 => ∃ v, e = .returned v ∧ w3.cell? ⟨p.g, 0, none⟩ = some (.pointer (some ⟨p.gf, 0, none⟩)) ∧ w3.cell? ⟨p.g, 3, none⟩ = some (.map (some p.gm)) ∧ LRes w w3 (touchN D) v ∧ CapOk v ∧ Below w.heap.size w w3 := by
  have hv := h.keep hV
  have hTl := hL.len
  have hKn : ∀ z, z ∈ cmpS (dirtyN D) ↔ Rg z ∧ (p.M z).isSome = true := fun z => by
    rw [mem_cmpS, ← hL.mark_dirty]
    refine ⟨fun q => ⟨?_, q⟩, And.right⟩
    obtain ⟨n, hn, e⟩ := el_isSome.1 ((hL.mrk z).1 q).1
    rw [← e]
    exact (hD.rg n hn).1
  have hKl : (cmpS (dirtyN D)).length ≤ D.L.length := by
    have := pigeon (m := D.L.map Nd.id) (up_nod (cmpS_up (dirtyN D))) (fun z hz => el_id.1 (dirty_node (mem_cmpS.1 hz)))
    rwa [List.length_map] at this
  refine ⟨hv.cells.1, hv.cells.2.2.2.1, (keysX9 (some p.gm) V).mono ?_⟩
  rintro e w1 ⟨rfl, rfl⟩
  have hal : Below V.heap.size V (V.alloc (.cells #[.map (some p.gm)] 65)) := alloc_below _ _
  have h1 := hv.keep hal
  refine ⟨_, rfl, h1.cells.1, h1.cells.2.2.2.1, (sortedX9 hv.mrk (cmpS (dirtyN D)) (cmpS_up _) hKn).mono ?_⟩
  rintro e w2 ⟨v, rfl, hown, hb2⟩
  obtain ⟨a, cap, rfl, hrow⟩ := hown.row
  have h2 := hv.keep hb2
  refine ⟨a, _, cap, rfl, h2.cells.1, h2.cells.2.2.2.1, ?_⟩
  obtain ⟨gp, gc, bl, cp, hf1, _⟩ := h2.fo
  refine (lunder_any (cap := cap) hf1 hL.wf (by omega) (by omega) hrow (fun z hz => ((hKn z).1 hz).1)).mono ?_
  rintro e w3 ⟨v, rfl, hlr, hcp, hb3⟩
  have h3 := h2.keep hb3
  refine ⟨v, rfl, h3.cells.1, h3.cells.2.2.2.1, ?_, hcp, bthen (bthen hV hb2) hb3⟩
  have ht : undL p.T (cmpS (dirtyN D)) = touchN D := hL.touch hD (fun z => by rw [mem_cmpS, hL.mark_dirty])
  rw [ht] at hlr
  obtain ⟨a3, c3, e3, r3, n3⟩ := hlr
  have hs := (bthen hV hb2).size
  exact ⟨a3, c3, e3, r3, n3.imp id (fun q ad e => by have := q ad e; omega)⟩
set_option maxHeartbeats 8000000 in
set_option maxRecDepth 100000 in
theorem lfrun_any (hD : DOk D) (hL : LI D p) (h : LW w p) (hDl : D.L.length ≤ 300) (hst : D.steps ≤ 1000000) :
    Calls Tryz.prog 8 #[.pointer (some ⟨p.g, 0, none⟩)] w fun e w' => ∃ v, e = .returned (.tuple #[v, .int .i64 (runE D)]) ∧ LRes w w' (touchN D) v ∧ CapOk v ∧ ∃ q, q.g = p.g ∧ footL q = footL p ∧ ChL w w' p q ∧ LI (runD D) q := by
  have HTo := Lib.hid (lftouch_chain hD hL h hDl (below_drew9f w))
  have htl := touch_len hD.wf
  have hpst := hL.st
  have HSp : Hid (∀ W a n cap, Below w.heap.size w W → LRes w W (touchN D) (.slice a n cap) → n = (touchN D).length → W.cell? ⟨p.g, 4, none⟩ = some (.int .i64 p.st) ∧ W.frozen? ⟨p.g, 4, none⟩ = false ∧ p.g < W.heap.size ∧ ∀ z, z = ((p.st + n : Nat) : Int) → Calls Tryz.prog 25 #[.pointer (some ⟨p.g, 0, none⟩), .slice a n cap] (W.setCell ⟨p.g, 4, none⟩ (.int .i64 z)) fun e w' => e = .returned (.int .i64 (runE D)) ∧ ChL w w' p (runP p (remS D.L (touchN D) p.S n) p.M (p.st + n)) ∧ LRes w w' (touchN D) (.slice a n cap)) := Lib.hid (fun W a n cap hb hlr hn => by
    have h1 := h.keep hb
    refine ⟨h1.cells.2.2.2.2.1, h1.blk.frozen 4, h1.cells.2.2.2.2.2, fun z hz => ?_⟩
    have hc1 := (ChL.still h hb).join (h1.setT (p.st + n) hz)
    have hlr1 := lres_frame hlr h.inb (h1.setT (p.st + n) hz).2.1
    obtain ⟨a', c', e', r', n'⟩ := hlr1
    injection e' with e1 e2 e3
    subst e1 e3
    have hli : LI { D with steps := p.st + n } { p with st := p.st + n } := ⟨hL.wf, hL.par, hL.nod, hL.mrk, hL.non, hL.sts, rfl⟩
    have hdk : DOk { D with steps := p.st + n } := ⟨hD.nod, hD.wf, hD.ok, hD.nn, hD.rg, hD.st⟩
    have haw : Aw (footL p) a (touchN D).length := by
      rcases n' with c | c
      · exact Or.inl c
      · exact Or.inr (fun ad e hf => by have := h.inb _ hf; have := c ad e; omega)
    rw [hn]
    have hc := lfremake_any (cap := cap) hdk hli hc1.1 (by show D.L.length ≤ 900; omega) r' haw
    refine hc.mono ?_
    rintro e w' ⟨rfl, hch⟩
    refine ⟨rfl, ?_, a, cap, rfl, row_frame r' haw hch.2.1, n'⟩
    have := hc1.join hch
    rw [hn] at this
    exact this)
  have HClr : Hid (∀ u n, n = (touchN D).length → ChL w u p (runP p (remS D.L (touchN D) p.S n) p.M (p.st + n)) → runE D = 0 → u.cell? ⟨p.g, 3, none⟩ = some (.map (some p.gm)) ∧ p.g < u.heap.size ∧ ∃ w2, (∀ ty, (Builtin.clear_ #[65] ty #[.map (some p.gm)]).run Tryz.prog u = .ok (.tuple #[]) w2) ∧ Fr u w2 (footL p) ∧ ∃ q, q.g = p.g ∧ footL q = footL p ∧ ChL w w2 p q ∧ LI (runD D) q) := Lib.hid (fun u n hn k h0 => by
    obtain ⟨w2, r2, m2, g2⟩ := k.1.mrk.clear
    have hc := k.1.setM m2 g2
    refine ⟨k.1.cells.2.2.2.1, k.1.cells.2.2.2.2.2, w2, r2, hc.2.1, runP p (remS D.L (touchN D) p.S n) (fun _ => none) (p.st + n), rfl, rfl, k.join hc, ?_⟩
    rw [hn]
    exact hL.runOk hD h0)
  have HNd : Hid (∀ u n, n = (touchN D).length → ChL w u p (runP p (remS D.L (touchN D) p.S n) p.M (p.st + n)) → runE D ≠ 0 → Calls Tryz.prog 27 #[.pointer (some ⟨p.g, 0, none⟩)] u fun e w1 => ∃ a n2 cap, e = .returned (.slice a n2 cap) ∧ Calls Tryz.prog 26 #[.pointer (some ⟨p.g, 0, none⟩), .slice a n2 cap] w1 fun e w2 => e = .returned (.tuple #[]) ∧ Fr u w2 (footL p) ∧ ∃ q, q.g = p.g ∧ footL q = footL p ∧ ChL w w2 p q ∧ LI (runD D) q) := Lib.hid (fun u n hn k h0 => by
    refine (lfnodes_any k.1 (namesN D.L) (names_up hD.nod) (fun z => hL.names hD z)).mono ?_
    rintro e w1 ⟨v, rfl, hown, hb1⟩
    obtain ⟨a, cap, rfl, hrow⟩ := hown.row
    have h1 := k.1.keep hb1
    have hnl := names_len D.L
    refine ⟨a, _, cap, rfl, (lfmark_any h1 (by omega) hrow ?_ (fun z hz => ((hL.names hD z).1 hz).1) (D.L.map Nd.id) (fun y hy => el_id.1 ((hL.mrk y).1 hy).1) (by rw [List.length_map]; omega)).mono ?_⟩
    · by_cases z : (namesN D.L).length = 0
      · exact Or.inl z
      · refine Or.inr (fun ad e hf => ?_)
        have k1 := k.1.inb _ hf
        have k2 := (World.ownsRow.lt hown ad.block (by rw [e]; rfl)).1
        omega
    · rintro e w2 ⟨rfl, hc⟩
      have hcu := (ChL.still k.1 hb1).join hc
      refine ⟨rfl, hcu.2.1, mkP (runP p (remS D.L (touchN D) p.S n) p.M (p.st + n)) (namesN D.L), rfl, rfl, k.join hcu, ?_⟩
      have := hL.runNo hD h0 n
      rw [← hn] at this
      exact this)
  have HIn : Hid (∀ b, footL p b → b < w.heap.size) := Lib.hid h.inb
  obtain ⟨O, hO⟩ : ∃ O, O = touchN D := ⟨_, rfl⟩
  obtain ⟨E, hE⟩ : ∃ E, E = runE D := ⟨_, rfl⟩
  rw [← hO] at HTo HSp HClr HNd htl ⊢
  rw [← hE] at HSp HClr HNd ⊢
  obtain ⟨g, hge⟩ : ∃ g, g = p.g := ⟨_, rfl⟩
  obtain ⟨gf, hfe⟩ : ∃ gf, gf = p.gf := ⟨_, rfl⟩
  obtain ⟨gm, hme⟩ : ∃ gm, gm = p.gm := ⟨_, rfl⟩
  obtain ⟨st, hse⟩ : ∃ st, st = p.st := ⟨_, rfl⟩
  obtain ⟨P, hP⟩ : ∃ P : Nat → Wp, P = fun n => runP p (remS D.L O p.S n) p.M (p.st + n) := ⟨_, rfl⟩
  have HSp2 : Hid (∀ W a n cap, Below w.heap.size w W → LRes w W O (.slice a n cap) → n = O.length → W.cell? ⟨g, 4, none⟩ = some (.int .i64 st) ∧ W.frozen? ⟨g, 4, none⟩ = false ∧ g < W.heap.size ∧ ∀ z, z = ((st + n : Nat) : Int) → Calls Tryz.prog 25 #[.pointer (some ⟨g, 0, none⟩), .slice a n cap] (W.setCell ⟨g, 4, none⟩ (.int .i64 z)) fun e w' => e = .returned (.int .i64 E) ∧ ChL w w' p (P n) ∧ LRes w w' O (.slice a n cap)) := Lib.hid (by rw [hP, hge, hse]; exact HSp.out)
  have HClr2 : Hid (∀ u n, n = O.length → ChL w u p (P n) → E = 0 → u.cell? ⟨g, 3, none⟩ = some (.map (some gm)) ∧ g < u.heap.size ∧ ∃ w2, (∀ ty, (Builtin.clear_ #[65] ty #[.map (some gm)]).run Tryz.prog u = .ok (.tuple #[]) w2) ∧ Fr u w2 (footL p) ∧ ∃ q, q.g = g ∧ footL q = footL p ∧ ChL w w2 p q ∧ LI (runD D) q) := Lib.hid (by rw [hP, hge, hme]; exact HClr.out)
  have HNd2 : Hid (∀ u n, n = O.length → ChL w u p (P n) → E ≠ 0 → Calls Tryz.prog 27 #[.pointer (some ⟨g, 0, none⟩)] u fun e w1 => ∃ a n2 cap, e = .returned (.slice a n2 cap) ∧ Calls Tryz.prog 26 #[.pointer (some ⟨g, 0, none⟩), .slice a n2 cap] w1 fun e w2 => e = .returned (.tuple #[]) ∧ Fr u w2 (footL p) ∧ ∃ q, q.g = g ∧ footL q = footL p ∧ ChL w w2 p q ∧ LI (runD D) q) := Lib.hid (by rw [hP, hge]; exact HNd.out)
  rw [← hge, ← hfe, ← hme] at HTo
  rw [← hge]
  have hstb : st ≤ 1000000 := by rw [hse, hpst]; exact hst
  obtain ⟨c0, c3, hk⟩ := HTo.out
  have HKy := Lib.hid hk
  have hg : g < w.heap.size := by rw [hge]; exact h.cells.2.2.2.2.2
  have hol : O.length ≤ 300 := by omega
  clear HSp HClr HNd HTo hk h hL hD hDl hst hpst htl hO hE hge hfe hme hse hP
  go_enter Tryz.func8, Tryz.ntmps8
  go_upto_region 3 with fail
  go_region_held3 (fun w' => w'.cell? ⟨g, 0, none⟩ = some (.pointer (some ⟨gf, 0, none⟩)) ∧ w'.cell? ⟨g, 3, none⟩ = some (.map (some gm))) (first | exact ⟨c0, c3⟩ | exact ⟨c01, c31⟩ | exact ⟨c02, c32⟩ | exact ⟨c03, c33⟩)
    (first
      | (go_at_call 24; refine HKy.out.mono ?_; rintro e w1 ⟨f, rfl, c01, c31, hs⟩; have HSr := Lib.hid hs; clear hs)
      | (go_at_call 23; refine HSr.out.mono ?_; rintro e w2 ⟨ka, kn, kc, rfl, c02, c32, hu⟩; have HUn := Lib.hid hu; clear hu)
      | (go_at_call 22; refine HUn.out.mono ?_; rintro e w3 ⟨v, rfl, c03, c33, hlr, hcp, hb3⟩; have HLr := Lib.hid hlr; have HCp := Lib.hid hcp; have HB3 := Lib.hid hb3; clear hlr hcp hb3))
  obtain ⟨a, cap, rfl, -, -⟩ := HLr.out
  obtain ⟨n, hn⟩ : ∃ n, n = O.length := ⟨_, rfl⟩
  rw [← hn] at HLr HCp hol ⊢
  obtain ⟨c4, hfz, hg3, hre⟩ := HSp2.out w3 a n cap HB3.out HLr.out hn
  have HRe := Lib.hid (hre ((st : Int) + (n : Int)) (by rw [Int.natCast_add]))
  have HNe := Lib.hid hn
  have hw : IntKind.i64.wrap ((st : Int) + (n : Int)) = (st : Int) + (n : Int) := by rw [IntKind.wrap_i64]; omega
  clear hre HSp2 HLr c0 c3 c01 c31 c02 c32 c03 c33 hg HKy HSr HUn hn
  go_wp2_with fail
  refine HRe.out.mono ?_
  rintro e w4 ⟨rfl, hch, hlr⟩
  have HCh := Lib.hid hch
  have HLr := Lib.hid hlr
  clear hch hlr HRe c4 hg3
  by_cases hE0 : E = 0
  · obtain ⟨c3, hg, w5, r5, hfr, hq⟩ := HClr2.out w4 n HNe.out HCh.out hE0
    have HE : Hid (LRes w w5 O (.slice a n cap) ∧ ∃ q, q.g = g ∧ footL q = footL p ∧ ChL w w5 p q ∧ LI (runD D) q) := Lib.hid ⟨lres_frame HLr.out HIn.out hfr, hq⟩
    subst hE0
    clear hfr hq HClr2 HNd2 HCh HLr
    go_wp2_with (at_builtin; refine wpList_clr9 rfl (.tmp 42) 65 rfl _ rfl (r5 _) ?_)
    go_ret2
    exact ⟨_, rfl, HE.out.1, HCp.out, HE.out.2⟩
  · have HNo := Lib.hid (HNd2.out w4 n HNe.out HCh.out hE0)
    clear HClr2 HNd2 HCh
    go_wp2_with fail
    refine HNo.out.mono ?_
    rintro e w5 ⟨ka, kn, kc, rfl, hm⟩
    have HM := Lib.hid hm
    clear hm HNo
    go_wp2_with fail
    refine HM.out.mono ?_
    rintro e w6 ⟨rfl, hfr, hq⟩
    have HE : Hid (LRes w w6 O (.slice a n cap) ∧ ∃ q, q.g = g ∧ footL q = footL p ∧ ChL w w6 p q ∧ LI (runD D) q) := Lib.hid ⟨lres_frame HLr.out HIn.out hfr, hq⟩
    clear hfr hq HM HLr
    go_wp2
    go_ret2
    exact ⟨_, rfl, HE.out.1, HCp.out, HE.out.2⟩
end
end Go.Proofs.YtdndafdninnjfaaGreat
