/-
  3 texts in one file, each with its own heading.
-/
import Derived.Test.YthhfcedhbfandaaGreatMS26
import Derived.Test.YthhfcedhbfandaaGreatMS06
import Derived.Test.YthhfcedhbfandaaGreatMS04
/-
  What the reference's Remove and Insert of layer 12 answer.
-/
namespace Go.Proofs.YthhfcedhbfandaaGreat
open Go.RowKit

theorem results_cellR {fn : Func} {tmps : Array Value} {s r q : Tmp} {t : TypeId} {g : Nat} {v u z : Value} {w : World} (hr : fn.results = #[.cell s t, .tmp r, .tmp q]) (hp : tmps.getD s undef = .pointer (some ⟨g, 0, none⟩)) (hu : tmps.getD r undef = u) (hz : tmps.getD q undef = z) (hl : (loadVar t ⟨g, 0, none⟩).run Tryz.prog w = .ok v w) : (results fn tmps).run Tryz.prog w = .ok (.tuple #[v, u, z]) w := by
  unfold results
  rw [hr]
  have hp' : tmps[s]?.getD undef = .pointer (some ⟨g, 0, none⟩) := by simpa using hp
  have hu' : tmps[r]?.getD undef = u := by simpa using hu
  have hz' : tmps[q]?.getD undef = z := by simpa using hz
  simp [hp', hu', hz', hl, asAddr]
def lS (M : Nat → Int) (s : Bool) : List Value := [.int .i64 (M 0), .int .i64 (M 1), .int .i64 (M 2), .int .i64 (M 3), .int .i64 (M 4), .int .i64 (M 5), .int .i64 (M 6), .int .i64 (M 7), .int .i64 (M 8), .int .i64 (M 9), .int .i64 (M 10), .int .i64 (M 11), .bool s]
def lyR (P : PT) : Int := if hasB P.1 3 then P.2.2.2.2.2.2.2 else 1
def oeR (M : Nat → Int) (P : PT) (s : Bool) : Int := if s && drawnT P then carE M P.2.2.2.1 else 0
def obR (M : Nat → Int) (P : PT) (s : Bool) : Bool := s && drawnT P && decide (carE M P.2.2.2.1 = 0)
def recT (x : Int) (P : PT) (M : Nat → Int) : Rc := ⟨x, P.2.2.1, P.2.2.2.2.1, P.2.2.2.2.2.1, P.2.2.2.2.2.2.1, lyR P, carV M P.2.2.2.1 0, carV M P.2.2.2.1 1, carV M P.2.2.2.1 2, carV M P.2.2.2.1 3, carV M P.2.2.2.1 4, carV M P.2.2.2.1 5⟩
def ovR (x : Int) (M : Nat → Int) (P : PT) (s : Bool) : Rc := if obR M P s then recT x P M else zRc
set_option maxHeartbeats 4000000 in
set_option maxRecDepth 100000 in
theorem layer_any (P : PT) (w : World) :
    Calls Tryz.prog 217 #[.agg (pl P).toArray] w fun e w' => e = .returned (.int .i64 (lyR P)) ∧ Below w.heap.size w w' := by
  have K0 := Lib.hid (Blk.new w 52 (pl P).toArray)
  have HB0 : Hid (Below w.heap.size w (w.alloc (.cells (pl P).toArray 52))) := Lib.hid (alloc_below _ _)
  have HC : Hid (∀ W g, Blk W g 52 (pl P).toArray → W.cell? ⟨g, 0, none⟩ = some (.int .i64 P.1) ∧ W.cell? ⟨g, 23, none⟩ = some (.int .i64 P.2.2.2.2.2.2.2)) := Lib.hid (fun W g k => ⟨k.cell 0, k.cell 23⟩)
  obtain ⟨X, hX⟩ : ∃ X, X = pl P := ⟨_, rfl⟩
  obtain ⟨h, hh⟩ : ∃ h, h = P.1 := ⟨_, rfl⟩
  obtain ⟨l, hl⟩ : ∃ l, l = P.2.2.2.2.2.2.2 := ⟨_, rfl⟩
  have HLt : Hid (lyR P = if hasB h 3 then l else 1) := Lib.hid (by rw [hh, hl]; rfl)
  rw [← hX] at K0 HB0 HC ⊢
  rw [← hh, ← hl] at HC
  clear hX hh hl
  obtain ⟨bb, hbb⟩ : ∃ bb, bb = hasB h 3 := ⟨_, rfl⟩
  have HBb := Lib.hid hbb
  have HHs : Hid (∀ W g, W.cell? ⟨g, 0, none⟩ = some (.int .i64 3) → Calls Tryz.prog 195 #[.int .i64 h, .slice (some ⟨g, 0, none⟩) 1 1] W fun e w' => e = .returned (.bool bb) ∧ W = w') := Lib.hid (fun W g hc => by
    refine (phas_any h (some ⟨g, 0, none⟩) 1 1 [3] W ⟨rfl, by omega, Or.inr ⟨g, 0, rfl, fun i hi => ?_⟩⟩).mono ?_
    · obtain rfl : i = 0 := by omega
      exact hc
    · rintro e w' ⟨rfl, r2⟩
      exact ⟨by rw [hbb]; simp [hasAll], r2⟩)
  clear hbb
  go_enter Tryz.func217, Tryz.ntmps217
  go_upto_region 1 with fail
  refine fin (fun W => Blk W w.heap.size 52 X.toArray ∧ Below w.heap.size w W) ⟨K0.out, HB0.out⟩ ?_
  clear K0 HB0
  rintro W ⟨k, hb⟩
  obtain ⟨c0, c23⟩ := HC.out _ _ k
  have KX := Lib.hid k
  have HB := Lib.hid hb
  have hlt := k.lt
  clear k hb
  have hbs : ∀ W, (Instr.buildSlice 53 1 #[(0, .int .i64 3)]).run Tryz.prog W = .ok (.slice (some ⟨W.heap.size, 0, none⟩) 1 1) (W.alloc (.cells #[.int .i64 3] 244)) := fun W => by kernel_rfl
  have HCal := Lib.hid (HHs.out (W.alloc (.cells #[.int .i64 3] 244)) W.heap.size ((Blk.new W 244 #[.int .i64 3]).cell 0))
  go_wp2_with fail
  refine HCal.out.mono ?_
  rintro e w1 ⟨rfl, rfl⟩
  refine fin (fun W' => W'.cell? ⟨w.heap.size, 23, none⟩ = some (.int .i64 l) ∧ Below w.heap.size w W') ⟨(HC.out _ _ (KX.out.alloc _)).2, balloc HB.out _⟩ ?_
  clear HCal KX HB c0 c23 HC HHs
  rintro W' ⟨c23, hb⟩
  have HB := Lib.hid hb
  clear hb
  cases bb
  · have HE : Hid (lyR P = 1) := Lib.hid (by rw [HLt.out, ← HBb.out]; rfl)
    go_wp2
    go_ret
    exact ⟨by rw [HE.out]; rfl, HB.out⟩
  · have HE : Hid (lyR P = l) := Lib.hid (by rw [HLt.out, ← HBb.out]; rfl)
    go_wp2
    go_ret
    exact ⟨by rw [HE.out]; rfl, HB.out⟩
def lM12 (M : Nat → Int) : List Value := [.int .i64 (M 0), .int .i64 (M 1), .int .i64 (M 2), .int .i64 (M 3), .int .i64 (M 4), .int .i64 (M 5), .int .i64 (M 6), .int .i64 (M 7), .int .i64 (M 8), .int .i64 (M 9), .int .i64 (M 10), .int .i64 (M 11)]
def lB6 (B : Nat → Int) : List Value := [.int .i64 (B 0), .int .i64 (B 1), .int .i64 (B 2), .int .i64 (B 3), .int .i64 (B 4), .int .i64 (B 5)]
theorem lS_one (M : Nat → Int) (s : Bool) : (lS M s).toArray.all (·.oneCell') = true := by
  refine all_oneCell_toArray fun u hu => ?_
  unfold lS at hu
  simp only [List.mem_cons, List.not_mem_nil, or_false] at hu
  rcases hu with h | h | h | h | h | h | h | h | h | h | h | h | h <;> (rw [h]; rfl)
theorem lB6_one (B : Nat → Int) : (lB6 B).toArray.all (·.oneCell') = true := by
  refine all_oneCell_toArray fun u hu => ?_
  unfold lB6 at hu
  simp only [List.mem_cons, List.not_mem_nil, or_false] at hu
  rcases hu with h | h | h | h | h | h <;> (rw [h]; rfl)
def zB6 : List Value := [.int .i64 0, .int .i64 0, .int .i64 0, .int .i64 0, .int .i64 0, .int .i64 0]
theorem shcarry_l (M B : Nat → Int) (w : World) : Calls Tryz.prog 216 #[.agg (lM12 M).toArray, .agg (lB6 B).toArray] w fun e w' => e = .returned (.tuple #[.agg (lB6 (carV M B)).toArray, .int .i64 (carE M B)]) ∧ Below w.heap.size w w' := shcarry_any M B w
set_option maxHeartbeats 16000000 in
set_option maxRecDepth 100000 in
theorem rcof_any (x : Int) (P : PT) (M : Nat → Int) (s : Bool) (w : World) :
    Calls Tryz.prog 138 #[.int .i64 x, .agg (pl P).toArray, .agg (lS M s).toArray] w fun e w' => e = .returned (.tuple #[.agg (cRc (ovR x M P s)).toArray, .bool (obR M P s), .int .i64 (oeR M P s)]) ∧ Below w.heap.size w w' := by
  have b1 : Below w.heap.size w (w.alloc (.cells (pl P).toArray 52)) := alloc_below _ _
  have s1 : (w.alloc (.cells (pl P).toArray 52)).heap.size = w.heap.size + 1 := by simp
  have s2 : ((w.alloc (.cells (pl P).toArray 52)).alloc (.cells (lS M s).toArray 228)).heap.size = w.heap.size + 2 := by simp
  have k4 := ((Blk.new w 52 (pl P).toArray).alloc (.cells (lS M s).toArray 228)).alloc (.cells (cRc zRc).toArray 92)
  have k5 := (Blk.new (w.alloc (.cells (pl P).toArray 52)) 228 (lS M s).toArray).alloc (.cells (cRc zRc).toArray 92)
  have k6 := Blk.new ((w.alloc (.cells (pl P).toArray 52)).alloc (.cells (lS M s).toArray 228)) 92 (cRc zRc).toArray
  rw [s1] at k5
  rw [s2] at k6
  have HW0 := Lib.hid (And.intro k4 (And.intro k5 (And.intro k6 (balloc (balloc b1 (.cells (lS M s).toArray 228)) (.cells (cRc zRc).toArray 92)))))
  have HC4 : Hid (∀ W g, Blk W g 52 (pl P).toArray → W.cell? ⟨g, 13, none⟩ = some (.int .i64 P.2.2.1) ∧ W.cell? ⟨g, 20, none⟩ = some (.int .i64 P.2.2.2.2.1) ∧ W.cell? ⟨g, 21, none⟩ = some (.int .i64 P.2.2.2.2.2.1) ∧ W.cell? ⟨g, 22, none⟩ = some (.bool P.2.2.2.2.2.2.1) ∧ W.rangeAt g 14 (lB6 P.2.2.2.1)) := Lib.hid (fun W g k => ⟨k.cell 13, k.cell 20, k.cell 21, k.cell 22, blk_range k 14 6⟩)
  have HC5 : Hid (∀ W g, Blk W g 228 (lS M s).toArray → W.cell? ⟨g, 12, none⟩ = some (.bool s) ∧ W.rangeAt g 0 (lM12 M)) := Lib.hid (fun W g k => ⟨k.cell 12, blk_range k 0 12⟩)
  have HDr : Hid (∀ W, Calls Tryz.prog 215 #[.agg (pl P).toArray] W fun e w' => e = .returned (.bool (drawnT P)) ∧ Below W.heap.size W w') := Lib.hid (pdrawn_any P)
  have HLy : Hid (∀ W, Calls Tryz.prog 217 #[.agg (pl P).toArray] W fun e w' => e = .returned (.int .i64 (lyR P)) ∧ Below W.heap.size W w') := Lib.hid (layer_any P)
  have HCa : Hid (∀ W, Calls Tryz.prog 216 #[.agg (lM12 M).toArray, .agg (lB6 P.2.2.2.1).toArray] W fun e w' => e = .returned (.tuple #[.agg (lB6 (carV M P.2.2.2.1)).toArray, .int .i64 (carE M P.2.2.2.1)]) ∧ Below W.heap.size W w') := Lib.hid (shcarry_l M P.2.2.2.1)
  have HSp : Hid ((Tryz.prog.info? 52).map (·.size) = some (pl P).length) := Lib.hid (pl_size P)
  have HSm : Hid ((Tryz.prog.info? 46).map (·.size) = some (lM12 M).length) := Lib.hid (by kernel_rfl)
  have HSb : Hid ((Tryz.prog.info? 50).map (·.size) = some (lB6 P.2.2.2.1).length) := Lib.hid (by kernel_rfl)
  have HSc : Hid ((Tryz.prog.info? 50).map (·.size) = some (lB6 (carV M P.2.2.2.1)).length) := Lib.hid (by kernel_rfl)
  have HOc : Hid ((lB6 (carV M P.2.2.2.1)).toArray.all (·.oneCell') = true ∧ (lB6 (carV M P.2.2.2.1)).length = 6) := Lib.hid ⟨lB6_one _, rfl⟩
  have HNo : Hid ((s = false ∨ drawnT P = false) → ovR x M P s = zRc ∧ obR M P s = false ∧ oeR M P s = 0) := Lib.hid (fun h => by
    have e : (s && drawnT P) = false := by rcases h with h | h <;> simp [h]
    unfold ovR obR oeR
    rw [e]
    simp)
  have HEr : Hid (s = true → drawnT P = true → carE M P.2.2.2.1 ≠ 0 → ovR x M P s = zRc ∧ obR M P s = false ∧ oeR M P s = carE M P.2.2.2.1) := Lib.hid (fun h1 h2 h3 => by
    unfold ovR obR oeR
    simp [h1, h2, h3])
  have HYe : Hid (s = true → drawnT P = true → carE M P.2.2.2.1 = 0 → ovR x M P s = recT x P M ∧ obR M P s = true ∧ oeR M P s = 0) := Lib.hid (fun h1 h2 h3 => by
    unfold ovR obR oeR
    simp [h1, h2, h3])
  have HRec : Hid (cRc (recT x P M) = [.int .i64 x, .int .i64 P.2.2.1, .int .i64 P.2.2.2.2.1, .int .i64 P.2.2.2.2.2.1, .bool P.2.2.2.2.2.2.1, .int .i64 (lyR P), .int .i64 (carV M P.2.2.2.1 0), .int .i64 (carV M P.2.2.2.1 1), .int .i64 (carV M P.2.2.2.1 2), .int .i64 (carV M P.2.2.2.1 3), .int .i64 (carV M P.2.2.2.1 4), .int .i64 (carV M P.2.2.2.1 5)]) := Lib.hid rfl
  have HXC : Hid (lB6 (carV M P.2.2.2.1) = [.int .i64 (carV M P.2.2.2.1 0), .int .i64 (carV M P.2.2.2.1 1), .int .i64 (carV M P.2.2.2.1 2), .int .i64 (carV M P.2.2.2.1 3), .int .i64 (carV M P.2.2.2.1 4), .int .i64 (carV M P.2.2.2.1 5)]) := Lib.hid rfl
  obtain ⟨ov, hov⟩ : ∃ ov, ov = ovR x M P s := ⟨_, rfl⟩
  obtain ⟨ob, hob⟩ : ∃ ob, ob = obR M P s := ⟨_, rfl⟩
  obtain ⟨oe, hoe⟩ : ∃ oe, oe = oeR M P s := ⟨_, rfl⟩
  rw [← hov, ← hob, ← hoe] at HNo HEr HYe ⊢
  obtain ⟨XP, hXP⟩ : ∃ XP, XP = pl P := ⟨_, rfl⟩
  obtain ⟨XS, hXS⟩ : ∃ XS, XS = lS M s := ⟨_, rfl⟩
  obtain ⟨XM, hXM⟩ : ∃ XM, XM = lM12 M := ⟨_, rfl⟩
  obtain ⟨XB, hXB⟩ : ∃ XB, XB = lB6 P.2.2.2.1 := ⟨_, rfl⟩
  obtain ⟨Xcb, hXcb⟩ : ∃ Xcb, Xcb = lB6 (carV M P.2.2.2.1) := ⟨_, rfl⟩
  obtain ⟨dr, hdr⟩ : ∃ dr, dr = drawnT P := ⟨_, rfl⟩
  obtain ⟨ce, hce⟩ : ∃ ce, ce = carE M P.2.2.2.1 := ⟨_, rfl⟩
  obtain ⟨ly, hly⟩ : ∃ ly, ly = lyR P := ⟨_, rfl⟩
  obtain ⟨p1, hp1⟩ : ∃ p1, p1 = P.2.2.1 := ⟨_, rfl⟩
  obtain ⟨p2, hp2⟩ : ∃ p2, p2 = P.2.2.2.2.1 := ⟨_, rfl⟩
  obtain ⟨p3, hp3⟩ : ∃ p3, p3 = P.2.2.2.2.2.1 := ⟨_, rfl⟩
  obtain ⟨p4, hp4⟩ : ∃ p4, p4 = P.2.2.2.2.2.2.1 := ⟨_, rfl⟩
  obtain ⟨q0, hq0⟩ : ∃ q0, q0 = carV M P.2.2.2.1 0 := ⟨_, rfl⟩
  obtain ⟨q1, hq1⟩ : ∃ q1, q1 = carV M P.2.2.2.1 1 := ⟨_, rfl⟩
  obtain ⟨q2, hq2⟩ : ∃ q2, q2 = carV M P.2.2.2.1 2 := ⟨_, rfl⟩
  obtain ⟨q3, hq3⟩ : ∃ q3, q3 = carV M P.2.2.2.1 3 := ⟨_, rfl⟩
  obtain ⟨q4, hq4⟩ : ∃ q4, q4 = carV M P.2.2.2.1 4 := ⟨_, rfl⟩
  obtain ⟨q5, hq5⟩ : ∃ q5, q5 = carV M P.2.2.2.1 5 := ⟨_, rfl⟩
  rw [← hXP] at HW0 HC4 HDr HLy HSp ⊢
  rw [← hXS] at HW0 HC5 ⊢
  rw [← hXM] at HC5 HCa HSm
  rw [← hXB] at HC4 HCa HSb
  rw [← hXcb] at HCa HSc HOc HXC
  rw [← hdr] at HDr HNo HEr HYe
  rw [← hce] at HCa HEr HYe
  rw [← hly] at HLy HRec
  rw [← hp1] at HC4 HRec
  rw [← hp2] at HC4 HRec
  rw [← hp3] at HC4 HRec
  rw [← hp4] at HC4 HRec
  rw [← hq0, ← hq1, ← hq2, ← hq3, ← hq4, ← hq5] at HRec HXC
  clear hXP hXS hXM hXB hXcb hdr hce hly hp1 hp2 hp3 hp4 hq0 hq1 hq2 hq3 hq4 hq5 hov hob hoe k4 k5 k6 b1 s1 s2
  go_enter Tryz.func138, Tryz.ntmps138
  go_upto_region 1 with fail
  refine fin (fun W => Blk W w.heap.size 52 XP.toArray ∧ Blk W (w.heap.size + 1) 228 XS.toArray ∧ Blk W (w.heap.size + 2) 92 (cRc zRc).toArray ∧ Below w.heap.size w W) HW0.out ?_
  clear HW0
  rintro W0 ⟨k4, k5, k6, hb⟩
  have K4 := Lib.hid k4
  have K5 := Lib.hid k5
  have K6 := Lib.hid k6
  have HB := Lib.hid hb
  obtain ⟨c12, _⟩ := HC5.out _ _ k5
  have hl4 := k4.lt
  have hl5 := k5.lt
  clear k4 k5 k6 hb
  cases s
  · have HV := Lib.hid (HNo.out (Or.inl rfl))
    have HTh : Hid (W0.there (w.heap.size + 2) 0 (cRc zRc).toArray.size) := Lib.hid (blk_there K6.out (Nat.le_refl 12))
    have HSz' : Hid ((Tryz.prog.info? 92).map (·.size) = some (cRc zRc).toArray.size) := Lib.hid (rc_size zRc)
    have HOz := Lib.hid (rc_all zRc)
    have HFi : Hid (Blk (W0.setCells (w.heap.size + 2) 0 (cRc zRc)) (w.heap.size + 2) 92 (cRc zRc).toArray ∧ Below w.heap.size w (W0.setCells (w.heap.size + 2) 0 (cRc zRc))) := Lib.hid (by
      have q := blk_setCells (cRc zRc) (o := 0) K6.out (Nat.le_refl 12)
      rw [splice_rc] at q
      exact ⟨q, below_setCells _ HB.out (by omega)⟩)
    go_wp2_with (refine wpList_store_mid rfl 92 (.tmp 6) (.tmp 19) rfl (w.heap.size + 2) 0 (cRc zRc).toArray rfl rfl HTh.out HSz'.out HOz.out ?_)
    refine fin (fun W => Blk W (w.heap.size + 2) 92 (cRc zRc).toArray ∧ Below w.heap.size w W) HFi.out ?_
    rintro Wz ⟨kr, hbz⟩
    have hl := run_loadVar_mid Wz (w.heap.size + 2) 0 92 (cRc zRc) _ (blk_whole kr) Tryz.underlying92 rfl (rc_size zRc)
    (try simp only [Act.put, List.setIfInBounds_toArray, List.set_cons_zero, List.set_cons_succ])
    exact bodyPost_ret (v := .tuple #[.agg (cRc zRc).toArray, .bool false, .int .i64 0]) (results_cellR Tryz.results138 rfl rfl rfl hl) rfl ⟨by rw [HV.out.1, HV.out.2.1, HV.out.2.2], hbz⟩
  · go_wp2_with (refine wpList_load_g (by rfl) 52 (.tmp 4) rfl w.heap.size 0 rfl XP _ (blk_whole K4.out) Tryz.underlying52 rfl HSp.out ?_)
    refine (HDr.out _).mono ?_
    rintro e w1 ⟨rfl, hb⟩
    have K4b := Lib.hid (K4.out.keep hb)
    have K5b := Lib.hid (K5.out.keep hb)
    have K6b := Lib.hid (K6.out.keep hb)
    have HBb := Lib.hid (bthen HB.out hb)
    have hs0 : W0.heap.size ≤ w1.heap.size := hb.size
    clear hb K4 K5 K6 HB HDr c12
    cases dr
    · have HV := Lib.hid (HNo.out (Or.inr rfl))
      have HTh : Hid (w1.there (w.heap.size + 2) 0 (cRc zRc).toArray.size) := Lib.hid (blk_there K6b.out (Nat.le_refl 12))
      have HSz' : Hid ((Tryz.prog.info? 92).map (·.size) = some (cRc zRc).toArray.size) := Lib.hid (rc_size zRc)
      have HOz := Lib.hid (rc_all zRc)
      have HFi : Hid (Blk (w1.setCells (w.heap.size + 2) 0 (cRc zRc)) (w.heap.size + 2) 92 (cRc zRc).toArray ∧ Below w.heap.size w (w1.setCells (w.heap.size + 2) 0 (cRc zRc))) := Lib.hid (by
        have q := blk_setCells (cRc zRc) (o := 0) K6b.out (Nat.le_refl 12)
        rw [splice_rc] at q
        exact ⟨q, below_setCells _ HBb.out (by omega)⟩)
      go_wp2_with (refine wpList_store_mid rfl 92 (.tmp 6) (.tmp 19) rfl (w.heap.size + 2) 0 (cRc zRc).toArray rfl rfl HTh.out HSz'.out HOz.out ?_)
      refine fin (fun W => Blk W (w.heap.size + 2) 92 (cRc zRc).toArray ∧ Below w.heap.size w W) HFi.out ?_
      rintro Wz ⟨kr, hbz⟩
      have hl := run_loadVar_mid Wz (w.heap.size + 2) 0 92 (cRc zRc) _ (blk_whole kr) Tryz.underlying92 rfl (rc_size zRc)
      (try simp only [Act.put, List.setIfInBounds_toArray, List.set_cons_zero, List.set_cons_succ])
      exact bodyPost_ret (v := .tuple #[.agg (cRc zRc).toArray, .bool false, .int .i64 0]) (results_cellR Tryz.results138 rfl rfl rfl hl) rfl ⟨by rw [HV.out.1, HV.out.2.1, HV.out.2.2], hbz⟩
    · obtain ⟨_, _, _, _, hr14⟩ := HC4.out _ _ K4b.out
      obtain ⟨_, hr0⟩ := HC5.out _ _ K5b.out
      have HR14 := Lib.hid hr14
      have HR0 := Lib.hid hr0
      clear hr14 hr0
      go_wp2_with (first
        | refine wpList_load_mid rfl 46 (.tmp 21) rfl (w.heap.size + 1) 0 rfl XM _ HR0.out Tryz.underlying46 rfl HSm.out ?_
        | refine wpList_load_mid rfl 50 (.tmp 23) rfl w.heap.size 14 rfl XB _ HR14.out Tryz.underlying50 rfl HSb.out ?_)
      refine (HCa.out _).mono ?_
      rintro e w2 ⟨rfl, hb⟩
      have K4c := Lib.hid (K4b.out.keep hb)
      have K6c := Lib.hid (K6b.out.keep hb)
      have HBc := Lib.hid (bthen HBb.out hb)
      have hs1 : w1.heap.size ≤ w2.heap.size := hb.size
      clear hb K4b K5b K6b HBb HR0 HR14 HCa
      have KN := Blk.new w2 50 zB6.toArray
      have HTh : Hid ((w2.alloc (.cells zB6.toArray 50)).there w2.heap.size 0 Xcb.toArray.size) := Lib.hid (blk_there KN (by show 0 + Xcb.length ≤ 6; rw [HOc.out.2]; exact Nat.le_refl 6))
      have HSc' : Hid ((Tryz.prog.info? 50).map (·.size) = some Xcb.toArray.size) := HSc
      have HW3 : Hid (Blk ((w2.alloc (.cells zB6.toArray 50)).setCells w2.heap.size 0 Xcb) w.heap.size 52 XP.toArray ∧ Blk ((w2.alloc (.cells zB6.toArray 50)).setCells w2.heap.size 0 Xcb) (w.heap.size + 2) 92 (cRc zRc).toArray ∧ Blk ((w2.alloc (.cells zB6.toArray 50)).setCells w2.heap.size 0 Xcb) w2.heap.size 50 Xcb.toArray ∧ Below w.heap.size w ((w2.alloc (.cells zB6.toArray 50)).setCells w2.heap.size 0 Xcb)) := Lib.hid (by
        have hbel : Below w2.heap.size w2 ((w2.alloc (.cells zB6.toArray 50)).setCells w2.heap.size 0 Xcb) := below_setCells _ (alloc_below _ _) (Nat.le_refl _)
        refine ⟨K4c.out.keep hbel, K6c.out.keep hbel, ?_, bthen HBc.out hbel⟩
        have q := blk_setCells Xcb (o := 0) KN (by rw [HOc.out.2]; exact Nat.le_refl 6)
        rw [splice_all (by rw [HOc.out.2]; rfl)] at q
        exact q)
      clear KN
      go_upto_region 4 with (refine wpList_store_mid rfl 50 (.tmp 9) (.tmp 26) rfl w2.heap.size 0 Xcb.toArray rfl rfl HTh.out HSc'.out HOc.out.1 ?_)
      refine fin (fun W => Blk W w.heap.size 52 XP.toArray ∧ Blk W (w.heap.size + 2) 92 (cRc zRc).toArray ∧ Blk W w2.heap.size 50 Xcb.toArray ∧ Below w.heap.size w W) HW3.out ?_
      obtain ⟨g9, hg9⟩ : ∃ g9, g9 = w2.heap.size := ⟨_, rfl⟩
      have hg9l : w.heap.size + 2 < g9 := by
        have q := K6c.out.lt
        omega
      rw [← hg9]
      clear HW3 HTh hg9 K4c K6c HBc
      rintro W3 ⟨k4, k6, k9, hb⟩
      have K4d := Lib.hid k4
      have K6d := Lib.hid k6
      have K9 := Lib.hid k9
      have HBd := Lib.hid hb
      clear k4 k6 k9 hb
      by_cases he : ce = 0
      · have HV := Lib.hid (HYe.out (by trivial) (by trivial) he)
        have e1 : (ce != 0) = false := by rw [he]; rfl
        have HS : Hid (∀ W, Blk W w.heap.size 52 XP.toArray → Blk W g9 50 Xcb.toArray → W.cell? ⟨w.heap.size, 13, none⟩ = some (.int .i64 p1) ∧ W.cell? ⟨w.heap.size, 20, none⟩ = some (.int .i64 p2) ∧ W.cell? ⟨w.heap.size, 21, none⟩ = some (.int .i64 p3) ∧ W.cell? ⟨w.heap.size, 22, none⟩ = some (.bool p4) ∧ W.rangeAt w.heap.size 0 XP ∧ W.rangeAt g9 0 Xcb) := Lib.hid (fun W k4 k9 => by
          obtain ⟨a1, a2, a3, a4, _⟩ := HC4.out _ _ k4
          exact ⟨a1, a2, a3, a4, blk_whole k4, blk_whole k9⟩)
        clear he
        have hxc := HXC.out
        subst hxc
        go_upto_region 6 with fail
        have HKd : Hid (∀ W, Below W3.heap.size W3 W → Blk W w.heap.size 52 XP.toArray ∧ Blk W g9 50 ([.int .i64 q0, .int .i64 q1, .int .i64 q2, .int .i64 q3, .int .i64 q4, .int .i64 q5] : List Value).toArray ∧ Blk W (w.heap.size + 2) 92 (cRc zRc).toArray ∧ Below w.heap.size w W) := Lib.hid (fun W hb => ⟨K4d.out.keep hb, K9.out.keep hb, K6d.out.keep hb, bthen HBd.out hb⟩)
        refine wp_region_held_drew (S := fun w' => w'.cell? ⟨w.heap.size, 13, none⟩ = some (.int .i64 p1) ∧ w'.cell? ⟨w.heap.size, 20, none⟩ = some (.int .i64 p2) ∧ w'.cell? ⟨w.heap.size, 21, none⟩ = some (.int .i64 p3) ∧ w'.cell? ⟨w.heap.size, 22, none⟩ = some (.bool p4) ∧ w'.rangeAt w.heap.size 0 XP ∧ w'.rangeAt g9 0 [.int .i64 q0, .int .i64 q1, .int .i64 q2, .int .i64 q3, .int .i64 q4, .int .i64 q5]) (by kernel_rfl) (HS.out _ (HKd.out _ (bdrew (Below.refl _ _))).1 (HKd.out _ (bdrew (Below.refl _ _))).2.1) (fun hHeld => ?_)
        refine tk 0 hHeld ?_
        refine tk 1 hHeld ?_
        refine tk 2 hHeld ?_
        refine tk 3 hHeld ?_
        refine tk 4 hHeld ?_
        refine tk 5 hHeld ?_
        refine tk 6 hHeld ?_
        refine tk 7 hHeld ?_
        refine tk 8 hHeld ?_
        refine tkl 9 rfl (yieldsIf_load_mid (by rfl) _ _ rfl _ _ rfl _ _ (fun _ h => h.2.2.2.2.1) Tryz.underlying52 rfl HSp.out) hHeld ?_
        refine tkl 11 rfl (yieldsIf_load_mid (by rfl) _ _ rfl _ _ rfl _ _ (fun _ h => h.2.2.2.2.2) Tryz.underlying50 rfl HSc.out) hHeld ?_
        refine rd 10 (fun K hK => ?_)
        go_simp
        refine (HLy.out _).mono ?_
        rintro e w4 ⟨rfl, b1⟩
        go_wp2_with fail
        refine hK.out _ _ (HS.out _ (HKd.out _ (bthen (bdrew (Below.refl _ _)) b1)).1 (HKd.out _ (bthen (bdrew (Below.refl _ _)) b1)).2.1) (fun hHeld => ?_)
        clear hK K
        have HKe := Lib.hid (HKd.out _ (bthen (bdrew (Below.refl _ _)) b1))
        clear b1 HKd K4d K6d K9 HBd
        refine tk 12 hHeld ?_
        have HTh : Hid (w4.there (w.heap.size + 2) 0 12) := Lib.hid (blk_there HKe.out.2.2.1 (Nat.le_refl 12))
        have HSz' : Hid ((Tryz.prog.info? 92).map (·.size) = some ([.int .i64 x, .int .i64 p1, .int .i64 p2, .int .i64 p3, .bool p4, .int .i64 ly, .int .i64 q0, .int .i64 q1, .int .i64 q2, .int .i64 q3, .int .i64 q4, .int .i64 q5] : List Value).toArray.size) := Lib.hid (by kernel_rfl)
        have HOz : Hid (([.int .i64 x, .int .i64 p1, .int .i64 p2, .int .i64 p3, .bool p4, .int .i64 ly, .int .i64 q0, .int .i64 q1, .int .i64 q2, .int .i64 q3, .int .i64 q4, .int .i64 q5] : List Value).toArray.all (·.oneCell') = true) := Lib.hid (by have q := rc_all (recT x P M); rw [HRec.out] at q; exact q)
        have HFi : Hid (Blk (w4.setCells (w.heap.size + 2) 0 [.int .i64 x, .int .i64 p1, .int .i64 p2, .int .i64 p3, .bool p4, .int .i64 ly, .int .i64 q0, .int .i64 q1, .int .i64 q2, .int .i64 q3, .int .i64 q4, .int .i64 q5]) w.heap.size 52 XP.toArray ∧ Blk (w4.setCells (w.heap.size + 2) 0 [.int .i64 x, .int .i64 p1, .int .i64 p2, .int .i64 p3, .bool p4, .int .i64 ly, .int .i64 q0, .int .i64 q1, .int .i64 q2, .int .i64 q3, .int .i64 q4, .int .i64 q5]) g9 50 ([.int .i64 q0, .int .i64 q1, .int .i64 q2, .int .i64 q3, .int .i64 q4, .int .i64 q5] : List Value).toArray ∧ Blk (w4.setCells (w.heap.size + 2) 0 [.int .i64 x, .int .i64 p1, .int .i64 p2, .int .i64 p3, .bool p4, .int .i64 ly, .int .i64 q0, .int .i64 q1, .int .i64 q2, .int .i64 q3, .int .i64 q4, .int .i64 q5]) (w.heap.size + 2) 92 (cRc (recT x P M)).toArray ∧ Below w.heap.size w (w4.setCells (w.heap.size + 2) 0 [.int .i64 x, .int .i64 p1, .int .i64 p2, .int .i64 p3, .bool p4, .int .i64 ly, .int .i64 q0, .int .i64 q1, .int .i64 q2, .int .i64 q3, .int .i64 q4, .int .i64 q5])) := Lib.hid (by
          obtain ⟨a1, a2, a3, a4⟩ := HKe.out
          refine ⟨blk_setFar _ a1 (by omega), blk_setFar _ a2 (by omega), ?_, below_setCells _ a4 (by omega)⟩
          rw [HRec.out]
          have q := blk_setCells [.int .i64 x, .int .i64 p1, .int .i64 p2, .int .i64 p3, .bool p4, .int .i64 ly, .int .i64 q0, .int .i64 q1, .int .i64 q2, .int .i64 q3, .int .i64 q4, .int .i64 q5] (o := 0) a3 (Nat.le_refl 12)
          have e := splice_all (X := [.int .i64 x, .int .i64 p1, .int .i64 p2, .int .i64 p3, .bool p4, .int .i64 ly, .int .i64 q0, .int .i64 q1, .int .i64 q2, .int .i64 q3, .int .i64 q4, .int .i64 q5]) (Z := cRc zRc) rfl
          rw [e] at q
          exact q)
        clear HKe
        refine rd 13 (fun K hK => ?_)
        rw [if_pos (by rfl)]
        refine wp_store_mid 92 (.tmp 6) (.tmp 44) rfl (w.heap.size + 2) 0 ([.int .i64 x, .int .i64 p1, .int .i64 p2, .int .i64 p3, .bool p4, .int .i64 ly, .int .i64 q0, .int .i64 q1, .int .i64 q2, .int .i64 q3, .int .i64 q4, .int .i64 q5] : List Value).toArray rfl rfl HTh.out HSz'.out HOz.out ?_
        refine hK.out _ _ (HS.out _ HFi.out.1 HFi.out.2.1) (fun hHeld => ?_)
        clear hK K
        refine tk 14 hHeld ?_
        refine tk 15 hHeld ?_
        refine wpAnyH_done (by kernel_rfl) ?_ _
        clear hHeld
        go_wp2
        refine fin (fun W => Blk W (w.heap.size + 2) 92 (cRc (recT x P M)).toArray ∧ Below w.heap.size w W) HFi.out.2.2 ?_
        rintro Wz ⟨kr, hbz⟩
        have hl := run_loadVar_mid Wz (w.heap.size + 2) 0 92 (cRc (recT x P M)) _ (blk_whole kr) Tryz.underlying92 rfl (rc_size _)
        (try simp only [Act.put, List.setIfInBounds_toArray, List.set_cons_zero, List.set_cons_succ])
        exact bodyPost_ret (v := .tuple #[.agg (cRc (recT x P M)).toArray, .bool true, .int .i64 0]) (results_cellR Tryz.results138 rfl rfl rfl hl) rfl ⟨by rw [HV.out.1, HV.out.2.1, HV.out.2.2], hbz⟩
      · have HV := Lib.hid (HEr.out (by trivial) (by trivial) he)
        have e1 : (ce != 0) = true := by simpa using he
        clear he
        have HTh : Hid (W3.there (w.heap.size + 2) 0 (cRc zRc).toArray.size) := Lib.hid (blk_there K6d.out (Nat.le_refl 12))
        have HSz' : Hid ((Tryz.prog.info? 92).map (·.size) = some (cRc zRc).toArray.size) := Lib.hid (rc_size zRc)
        have HOz := Lib.hid (rc_all zRc)
        have HFi : Hid (Blk (W3.setCells (w.heap.size + 2) 0 (cRc zRc)) (w.heap.size + 2) 92 (cRc zRc).toArray ∧ Below w.heap.size w (W3.setCells (w.heap.size + 2) 0 (cRc zRc))) := Lib.hid (by
          have q := blk_setCells (cRc zRc) (o := 0) K6d.out (Nat.le_refl 12)
          rw [splice_rc] at q
          exact ⟨q, below_setCells _ HBd.out (by omega)⟩)
        go_wp2_with (refine wpList_store_mid rfl 92 (.tmp 6) (.tmp 30) rfl (w.heap.size + 2) 0 (cRc zRc).toArray rfl rfl HTh.out HSz'.out HOz.out ?_)
        refine fin (fun W => Blk W (w.heap.size + 2) 92 (cRc zRc).toArray ∧ Below w.heap.size w W) HFi.out ?_
        rintro Wz ⟨kr, hbz⟩
        have hl := run_loadVar_mid Wz (w.heap.size + 2) 0 92 (cRc zRc) _ (blk_whole kr) Tryz.underlying92 rfl (rc_size zRc)
        (try simp only [Act.put, List.setIfInBounds_toArray, List.set_cons_zero, List.set_cons_succ])
        exact bodyPost_ret (v := .tuple #[.agg (cRc zRc).toArray, .bool false, .int .i64 ce]) (results_cellR Tryz.results138 rfl rfl rfl hl) rfl ⟨by rw [HV.out.1, HV.out.2.1, HV.out.2.2], hbz⟩
end Go.Proofs.YthhfcedhbfandaaGreat
