/-
  6 texts in one file, each with its own heading.
-/
import Derived.Test.YtkondkajpmafkaaGreatMT47
import Derived.Test.YtkondkajpmafkaaGreatMT29
import Derived.Test.YtkondkajpmafkaaGreatMT34
import Derived.Maps.AppendAt
import Derived.Deep.QuietTactic
import Derived.WalkMore
import Derived.ScopeJumps
import Derived.Test.YtkondkajpmafkaaGreatMT42
/-
  The landed store: what New answers; that it keeps the bundle of a store.
-/
namespace Go.Proofs.YtkondkajpmafkaaGreat
open Go.RowKit

def newL (p mb : Nat) : List Value := (List.range 516).map (lF p mb 1 (fun _ => 0) (fun _ => 0) (.slice none 0 0))
theorem build_nl (p mb : Nat) (W : World) : (Instr.build 118 #[(0, .pointer (some ⟨p, 0, none⟩)), (1, .map (some mb)), (2, .int .i64 1)]).run Tryz.prog W = .ok (.agg (newL p mb).toArray) W := by kernel_rfl
theorem wpList_bld3 {ops : Array Oper} {rest : List Oper} {op : Oper} {a : Go.Act} {w : World} {Q : Exit → Go.Act → World → Prop} (hgd : op.guard = none) (t : TypeId) (x y z : Operand) (ho : op.op = .build t #[(0, x), (1, y), (2, z)]) (vx vy vz vr : Value) (hx : a.eval x = vx) (hy : a.eval y = vy) (hz : a.eval z = vz)
    (hrun : ∀ W, (Instr.build t #[(0, vx), (1, vy), (2, vz)]).run Tryz.prog W = .ok vr W)
    (h : wpList Tryz.prog ops Q rest (a.put op.dst vr) w) : wpList Tryz.prog ops Q (op :: rest) a w :=
  wpList_plain hgd fun K hK => by
    have h2 := hK _ _ h
    unfold Oper.wp execOp
    simp only [ho]
    simp [hx, hy, hz, hrun]
    exact h2
theorem li_zero (r : Nat) : LI (St0 r) (fun _ => 0) (fun _ => 0) := by
  refine ⟨?_, fun x h => ?_, ?_, List.Pairwise.nil, fun x h => ?_⟩
  · rintro x P ⟨i, _, h⟩
    cases h
  · have h2 : n0 (x % 256).toNat = true := (live_iff.1 h).2.2.1
    cases h2
  · show ([] : List Int).Nodup
    simp
  · cases h
theorem lm_new {w1 : World} {p r : Nat} (hp : w1.rowIs p 158 513 (poolF r z0 n0)) :
    ∃ F, LSB ((w1.alloc (.map #[] 0)).alloc (.cells (newL p w1.heap.size).toArray 118)) (w1.heap.size + 1) F (St0 r) ∧ ∀ b, F b → b = p ∨ w1.heap.size ≤ b := by
  have hpl := hp.lt
  have hs : (w1.alloc (.map #[] 0)).heap.size = w1.heap.size + 1 := by simp
  have hrow : ((w1.alloc (.map #[] 0)).alloc (.cells (newL p w1.heap.size).toArray 118)).rowIs (w1.heap.size + 1) 118 516 (lF p w1.heap.size 1 (fun _ => 0) (fun _ => 0) (.slice none 0 0)) := by
    have h := World.rowIs_alloc (w1.alloc (.map #[] 0)) (newL p w1.heap.size).toArray 118 (lF p w1.heap.size 1 (fun _ => 0) (fun _ => 0) (.slice none 0 0)) (fun i hi => by
      have hi' : i < 516 := by simpa [newL] using hi
      unfold newL
      simp [hi'])
    rw [hs] at h
    have e : (newL p w1.heap.size).toArray.size = 516 := by simp [newL]
    rwa [e] at h
  have hb : Below w1.heap.size w1 ((w1.alloc (.map #[] 0)).alloc (.cells (newL p w1.heap.size).toArray 118)) := bthen (alloc_below _ _) (alloc_below _ _)
  have hm : TM ((w1.alloc (.map #[] 0)).alloc (.cells (newL p w1.heap.size).toArray 118)) w1.heap.size (fun _ => none) := (TM.new w1).same ((alloc_below (w1.alloc (.map #[] 0)) (.cells (newL p w1.heap.size).toArray 118)).block _ (by rw [hs]; omega))
  refine ⟨lfoot (w1.heap.size + 1) p w1.heap.size (fun _ _ => False) (.slice none 0 0), ⟨fun _ => 0, fun _ => 0, ⟨p, w1.heap.size, fun _ => none, fun _ _ => False, .slice none 0 0, fun b => if b = p then 1 else if b = w1.heap.size then 2 else 0, ⟨hrow, World.rowIs.keep hp hb, hm, fun i _ => ⟨rfl, fun _ c => c⟩, ColX.nil _ _ _ _, ?_, ?_, ?_, fun b e => (by cases e), fun i _ b c => c.elim⟩, fun _ => Iff.rfl⟩, li_zero r⟩, ?_⟩
  · show (if w1.heap.size + 1 = p then 1 else if w1.heap.size + 1 = w1.heap.size then 2 else 0) = 0
    rw [if_neg (by omega), if_neg (by omega)]
  · show (if p = p then 1 else if p = w1.heap.size then 2 else 0) = 1
    rw [if_pos rfl]
  · show (if w1.heap.size = p then 1 else if w1.heap.size = w1.heap.size then 2 else 0) = 2
    rw [if_neg (by omega), if_pos rfl]
  · rintro b (e | e | e | e | ⟨i, _, e⟩)
    · exact Or.inr (by omega)
    · exact Or.inl e
    · exact Or.inr (by omega)
    · cases e
    · exact e.elim
set_option maxHeartbeats 2000000 in
set_option maxRecDepth 100000 in
theorem lnew_any (w : World) (r : Nat) (hr : r ≤ 256) :
    Calls Tryz.prog 26 #[.int .i64 r] w fun e w' => ∃ g F, e = .returned (.tuple #[.pointer (some ⟨g, 0, none⟩), .int .i64 0]) ∧ LSB w' g F (St0 r) ∧ (∀ b, F b → w.heap.size ≤ b) ∧ Below w.heap.size w w' := by
  have HPn := Lib.hid (qnew r w hr)
  have hmm := @run_makeMap Tryz.prog
  clear hr
  go_enter Tryz.func26, Tryz.ntmps26
  go_wp2_with fail
  refine HPn.out.mono ?_
  rintro e w1 ⟨p, rfl, hp, hrow, hb⟩
  obtain ⟨F, hF1, hF2⟩ := lm_new hrow
  have HF := Lib.hid (And.intro hF1 hF2)
  have HB := Lib.hid hb
  have HP := Lib.hid hp
  have HBd := Lib.hid (build_nl p w1.heap.size)
  obtain ⟨X, hX⟩ : ∃ X, X = newL p w1.heap.size := ⟨_, rfl⟩
  rw [← hX] at HF HBd
  clear hF1 hF2 hb hp hrow hX HPn
  go_wp2_with (refine wpList_bld3 rfl 118 (.tmp 14) (.tmp 15) (.const (.int .i64 1)) rfl (.pointer (some ⟨p, 0, none⟩)) (.map (some w1.heap.size)) (.int .i64 1) (.agg X.toArray) rfl rfl rfl HBd.out ?_)
  go_ret2
  refine ⟨w1.heap.size + 1, F, rfl, HF.out.1, fun b hb => ?_, bthen HB.out (bthen (alloc_below _ _) (alloc_below _ _))⟩
  rcases HF.out.2 b hb with c | c
  · rw [c]; exact HP.out
  · exact Nat.le_trans HB.out.size c
set_option maxHeartbeats 1000000 in
set_option maxRecDepth 100000 in
theorem lbad_any (w : World) (x : Int) (hx : x < 0 ∨ 256 < x) :
    Calls Tryz.prog 26 #[.int .i64 x] w fun e w' => e = .returned (.tuple #[.pointer none, .int .i64 1]) ∧ Below w.heap.size w w' := by
  have HPn := Lib.hid (qbad x w hx)
  clear hx
  go_enter Tryz.func26, Tryz.ntmps26
  go_wp2_with fail
  refine HPn.out.mono ?_
  rintro e w1 ⟨rfl, hb⟩
  have HB := Lib.hid hb
  clear hb HPn
  go_wp2
  go_ret2
  exact ⟨rfl, HB.out⟩

set_option maxHeartbeats 1000000 in
theorem qallD (g R : Nat) (G : Nat → Int) (L : Nat → Bool) (w : World) (hP : POk R G L) (row : w.rowIs g 158 513 (poolF R G L)) :
    Calls Tryz.prog 82 #[.pointer (some ⟨g, 0, none⟩)] w fun e w' => ∃ v, e = .returned v ∧ OwnD w' w.heap.size v (allL G L 256).length (allL G L 256) ∧ Below w.heap.size w w' := by
  have hall : allL G L 256 = allL G L R := by
    have h1 := all_room (G := G) (fun i hi => (hP.2.2 i hi).1) (256 - R)
    have h2 := hP.1
    rwa [show R + (256 - R) = 256 by omega] at h1
  rw [hall]
  have hR := hP.1
  have HRow := Lib.hid row
  have HG := Lib.hid hP.gen
  have cr := pool_room row
  clear row hP hall
  obtain ⟨i0, hi0, hz0, hz1, hz2⟩ := info_parts id_info
  have HI := Lib.hid (And.intro hi0 (And.intro hz0 (And.intro hz1 hz2)))
  clear hi0 hz0 hz1 hz2
  go_enter Tryz.func82, Tryz.ntmps82
  go_wp2
  go_loopw [3, 11] (fun v i wr => ∃ k : Nat, k ≤ R ∧ i = .int .i64 k ∧ OwnD wr w.heap.size v (allL G L k).length (allL G L k) ∧ Below w.heap.size w wr) (fun _ i _ => R - (ivl i).toNat)
  case atStart => exact ⟨0, by omega, rfl, OwnD.nil _ _, Below.refl _ _⟩
  case round =>
    clear cr
    obtain ⟨k, hk, rfl, hown, hb⟩ := hrel
    have HOwn := Lib.hid hown
    have HB := Lib.hid hb
    clear hown hb
    have HR2 := Lib.hid (World.rowIs.keep HRow.out HB.out)
    by_cases hlt : k < R
    · have cl := pool_live HR2.out (k := k) (by omega)
      have hk0 : (0 : Int) ≤ (k : Int) := by omega
      have hk1 : (k : Int) < 256 := by omega
      have hkR : (k : Int) < (R : Int) := by omega
      have zg : g < wr.heap.size := HR2.out.lt
      have hle := all_len G L k
      by_cases hL : L k = true
      · rw [hL] at cl
        have HA := Lib.hid (all_yes (G := G) hL)
        clear hL
        obtain ⟨n, hn⟩ : ∃ n, n = (allL G L k).length := ⟨_, rfl⟩
        rw [← hn] at HOwn hle
        have HN := Lib.hid hn
        clear hn
        have hsz : w.heap.size ≤ wr.heap.size := HB.out.size
        go_wp2_with fail
        refine (qname g R G L k _ HG.out (by omega) HR2.out).mono ?_
        rintro e w1 ⟨rfl, rfl⟩
        go_wp2_with (at_builtin; refine wpList_append_own _ rfl (.tmp 20) (.tmp 24) 53 rfl w.heap.size 31 i0 (.int .i64 0) 1 8 Tryz.underlying53 HI.out.1 HI.out.2.1 HI.out.2.2.1 HI.out.2.2.2 rfl (by decide) _ _ _ rfl (HOwn.out.alloc _) ⟨wr.heap.size, 0, none⟩ 1 1 [.int .i64 (nm (G k) k)] rfl rfl (cell_one_new _ _ _) (by intro u hu; simp at hu; subst hu; rfl) (by unfold maxLen; omega) (by omega) (by simp; omega) ?_)
        intro v' w2 hown' hgrow _
        have HOwn' := Lib.hid hown'
        have HGr := Lib.hid hgrow
        clear hown' hgrow
        go_wp2
        go_roundw
        case rel =>
          have el : (allL G L (k + 1)).length = n + 1 := by rw [HA.out, List.length_append, ← HN.out]; rfl
          refine ⟨k + 1, by omega, by go_num, ?_, grownD_below HOwn.out (Nat.le_refl _) HB.out hsz HGr.out⟩
          rw [el]
          unfold OwnD
          rw [HA.out, List.map_append]
          exact HOwn'.out
        case measure => simp [ivl] <;> omega
      · have hL' : L k = false := by simpa using hL
        rw [hL'] at cl
        have HA := Lib.hid (all_no (G := G) hL')
        clear hL hL'
        go_wp2
        go_roundw
        case rel => exact ⟨k + 1, by omega, by go_num, by rw [HA.out]; exact HOwn.out, HB.out⟩
        case measure => simp [ivl] <;> omega
    · obtain rfl : k = R := by omega
      obtain ⟨a, cap, hv, _⟩ := HOwn.out.row
      subst hv
      go_wp2
      go_ret
      exact ⟨_, rfl, HOwn.out, HB.out⟩
set_option maxHeartbeats 1000000 in
set_option maxRecDepth 100000 in
theorem lallD_any {w : World} {g : Nat} {F : Nat → Prop} {S : St} (h0 : LSB w g F S) (hW : WS S) :
    Calls Tryz.prog 50 #[.pointer (some ⟨g, 0, none⟩)] w fun e w' => ∃ v, e = .returned v ∧ LRes w w' (alS S) v ∧ Below w.heap.size w w' := by
  have hg := h0.inH
  obtain ⟨ls, lt, ⟨p, mb, ts, Lf, gv, lab, h, hF⟩, hI⟩ := h0
  have c0 := h.c0
  have HAl : Hid (Calls Tryz.prog 82 #[.pointer (some ⟨p, 0, none⟩)] w fun e w' => ∃ v, e = .returned v ∧ LRes w w' (alS S) v ∧ Below w.heap.size w w') := Lib.hid ((qallD p S.room S.G S.L w hW.ok h.pool).mono fun _ _ ⟨v, he, ho, hb⟩ => ⟨v, he, LRes.of9 ho (Nat.le_refl _), hb⟩)
  clear h hF hI hW
  go_enter Tryz.func50, Tryz.ntmps50
  go_wp2_with fail
  refine HAl.out.mono ?_
  rintro e w1 ⟨v, rfl, hr, hb⟩
  have HR := Lib.hid (And.intro hr hb)
  clear hr hb
  go_wp2
  go_ret
  exact ⟨v, rfl, HR.out.1, HR.out.2⟩

section
variable {SB : World → Nat → (Nat → Prop) → St → Prop}
end
structure UInv (w wr : World) (L : FT) (xs : List Int) (v5 v8 : Value) (pre S : List Int) : Prop where
  eq : undL L xs = pre ++ S.reverse.flatMap (beh L)
  own5 : OwnD wr w.heap.size v5 pre.length pre
  own8 : OwnD wr w.heap.size v8 S.length S
  far : ∀ b, v5.ownBlock = some b → v8.ownBlock ≠ some b
  low : Below w.heap.size w wr
  rng : Rgs S
section
variable {w : World} {g gp gc : Nat} {L : FT} {bl cp : Int → Nat}
end
theorem hasX (s x : Int) : hasAll s [x] = hasB s x := by unfold hasAll; simp
theorem bldF_zero (W : World) : (Instr.build 56 #[]).run Tryz.prog W = .ok (.agg (cNd n0d).toArray) W := by kernel_rfl
section
variable {SB : World → Nat → (Nat → Prop) → St → Prop} {FB : World → Nat → (Nat → Prop) → FT → Prop}
set_option maxHeartbeats 16000000 in
set_option maxRecDepth 100000 in
theorem lnode11_any (hC : SCx SB) (hF : FCx FB) {w : World} {g : Nat} {F : Nat → Prop} {X : Sc} (h0 : LXB SB FB w g F X) (hW : WX X) (hB : BSc X 900) (id : Int) (hid : Rg id) :
    Calls Tryz.prog 16 #[.pointer (some ⟨g, 0, none⟩), .int .i64 id] w fun e w' => ∃ Y, e = .returned (.tuple #[.agg (List.toArray Y), .bool (getB X.S id)]) ∧ Y = cNd (nodeX X id) ∧ Below w.heap.size w w' := by
  obtain ⟨P, hP⟩ : ∃ P, P = getP X.S id := ⟨_, rfl⟩
  obtain ⟨ok, hok⟩ : ∃ ok, ok = getB X.S id := ⟨_, rfl⟩
  have hN : nodeX X id = if ok then ⟨id, (parO X.L id).getD (-1), if hasB P.1 0 then P.2.1 else sameM, hasB P.1 4⟩ else n0d := by rw [hok, hP]; rfl
  have hKX := kb_lxb hC.kb hF.kb (SB := SB) (FB := FB)
  have HGet : Hid (∀ u, Below w.heap.size w u → Calls Tryz.prog 17 #[.pointer (some ⟨g, 0, none⟩), .int .i64 id] u fun e w' => e = .returned (.tuple #[.agg (pl P).toArray, .bool ok]) ∧ Below u.heap.size u w') := Lib.hid (fun u q => (lget11_any hC hF (hKX.keep h0 q) hW hB id).mono fun e w' ⟨Y, k1, k2, k3⟩ => ⟨by rw [k1, k2, hP, hok], k3⟩)
  obtain ⟨o, ho⟩ : ∃ o, o = parO X.L id := ⟨_, rfl⟩
  have HPar : Hid (∀ u, Below w.heap.size w u → Calls Tryz.prog 43 #[.pointer (some ⟨g, 0, none⟩), .int .i64 id] u fun e w' => e = .returned (.tuple #[.int .i64 (parV o), .bool o.isSome]) ∧ Below u.heap.size u w') := Lib.hid (fun u q => by rw [ho]; exact lparent11_any hC hF (hKX.keep h0 q) hW hB id hid)
  obtain ⟨is, his⟩ : ∃ is, is = o.isSome := ⟨_, rfl⟩
  obtain ⟨pv, hpv⟩ : ∃ pv, pv = parV o := ⟨_, rfl⟩
  obtain ⟨up, hup⟩ : ∃ up, up = o.getD (-1) := ⟨_, rfl⟩
  have HUp : Hid ((is = false ∧ up = -1) ∨ (is = true ∧ up = pv)) := Lib.hid (by
    rw [his, hup, hpv]
    cases o with
    | none => exact Or.inl ⟨rfl, rfl⟩
    | some y => exact Or.inr ⟨rfl, rfl⟩)
  rw [← ho, ← hup] at hN
  rw [← his, ← hpv] at HPar
  rw [← hok]
  have HSame : Hid (∀ u, Calls Tryz.prog 51 #[] u fun e w' => e = .returned (.agg (lM sameM).toArray) ∧ Below u.heap.size u w') := Lib.hid (fun u => same_any u)
  obtain ⟨hs, hhs⟩ : ∃ hs, hs = P.1 := ⟨_, rfl⟩
  obtain ⟨pb, hpb⟩ : ∃ pb, pb = hasB P.1 0 := ⟨_, rfl⟩
  obtain ⟨hb, hhb⟩ : ∃ hb, hb = hasB P.1 4 := ⟨_, rfl⟩
  have HH0 : Hid (∀ u a, Row u a 1 [0] → Calls Tryz.prog 52 #[.int .i64 hs, .slice a 1 1] u fun e w' => e = .returned (.bool pb) ∧ u = w') := Lib.hid (fun u a r => by rw [hpb, hhs, ← hasX]; exact phas_any _ a 1 1 [0] u r)
  have HH4 : Hid (∀ u a, Row u a 1 [4] → Calls Tryz.prog 52 #[.int .i64 hs, .slice a 1 1] u fun e w' => e = .returned (.bool hb) ∧ u = w') := Lib.hid (fun u a r => by rw [hhb, hhs, ← hasX]; exact phas_any _ a 1 1 [4] u r)
  rw [← hpb, ← hhb] at hN
  have HPX : Hid (PXs (pl P)) := Lib.hid ⟨pl_len _, pl_size _, pl_size' _, pl_one _⟩
  obtain ⟨M, hM⟩ : ∃ M, M = P.2.1 := ⟨_, rfl⟩
  rw [← hM] at hN
  have HPC : Hid (∀ W gg, Blk W gg 43 (pl P).toArray → W.cell? ⟨gg, 0, none⟩ = some (.int .i64 hs) ∧ W.rangeAt gg 1 (lM M)) := Lib.hid (fun W gg k => ⟨by rw [hhs]; exact k.cell 0, by rw [hM]; exact blk_range k 1 12⟩)
  have HMX := Lib.hid (mx_any M)
  obtain ⟨XP, hXP⟩ : ∃ XP, XP = pl P := ⟨_, rfl⟩
  rw [← hXP] at HGet HPX HPC
  have HN := Lib.hid hN
  have HZ := Lib.hid (nx_flow n0d)
  have HBz := Lib.hid bldF_zero
  have HBn : Hid (∀ W, (Instr.build 56 #[(0, .int .i64 id), (1, .int .i64 (-1)), (2, .agg (lM sameM).toArray), (3, .bool hb)]).run Tryz.prog W = .ok (.agg (cNd ⟨id, -1, sameM, hb⟩).toArray) W) := Lib.hid (bld_nodeF id (-1) sameM hb)
  have HX1 := Lib.hid (nx_flow ⟨id, -1, sameM, hb⟩)
  have HXf : Hid (∀ n, NXs (cNd n) 56) := Lib.hid nx_flow
  have KZ := Lib.hid (Blk.new w 56 (cNd n0d).toArray)
  have HB0 : Hid (Below w.heap.size w (w.alloc (.cells (cNd n0d).toArray 56))) := Lib.hid (alloc_below _ _)
  obtain ⟨XS, hXS⟩ : ∃ XS, XS = lM sameM := ⟨_, rfl⟩
  rw [← hXS] at HSame HBn
  have HXS := Lib.hid hXS
  obtain ⟨X1, hX1⟩ : ∃ X1, X1 = cNd ⟨id, -1, sameM, hb⟩ := ⟨_, rfl⟩
  rw [← hX1] at HBn HX1
  have HX1e := Lib.hid hX1
  obtain ⟨ML, hML⟩ : ∃ ML, ML = lM M := ⟨_, rfl⟩
  rw [← hML] at HPC HMX
  have HMLe := Lib.hid hML
  clear hKX hC hF hid h0 hW hB hP hok hN ho his hpv hup hhs hpb hhb hM hXP hXS hX1 hML
  go_enter Tryz.func16, Tryz.ntmps16
  go_upto_region 1 with fail
  refine fin (fun W => Blk W w.heap.size 56 (cNd n0d).toArray ∧ Below w.heap.size w W) ⟨KZ.out, HB0.out⟩ ?_
  clear KZ HB0
  obtain ⟨XZ, hXZ⟩ : ∃ XZ, XZ = cNd n0d := ⟨_, rfl⟩
  rw [← hXZ] at HZ HBz
  rintro W ⟨kz, hbl⟩
  rw [← hXZ] at kz
  have HZe := Lib.hid hXZ
  have KZ := Lib.hid kz
  have HB := Lib.hid hbl
  clear kz hbl hXZ
  go_wp2_with fail
  refine (HGet.out W HB.out).mono ?_
  rintro e w1 ⟨rfl, b1⟩
  have z4 : w.heap.size < w1.heap.size := Nat.lt_of_lt_of_le KZ.out.lt b1.size
  replace KZ := Lib.hid (KZ.out.keep b1)
  replace HB := Lib.hid (bthen HB.out b1)
  have hal : Below w1.heap.size w1 (w1.alloc (.cells Z24.toArray 43)) := alloc_below _ _
  have hbs : Below w1.heap.size w1 ((w1.alloc (.cells Z24.toArray 43)).setCells w1.heap.size 0 XP) := below_setCells XP hal (Nat.le_refl _)
  have HT6 : Hid ((w1.alloc (.cells Z24.toArray 43)).there w1.heap.size 0 XP.toArray.size) := Lib.hid (blk_there (Blk.new w1 _ _) (by rw [List.size_toArray, HPX.out.1]; exact Nat.le_refl 24))
  have HE6 : Hid (Blk ((w1.alloc (.cells Z24.toArray 43)).setCells w1.heap.size 0 XP) w1.heap.size 43 XP.toArray ∧ Blk ((w1.alloc (.cells Z24.toArray 43)).setCells w1.heap.size 0 XP) w.heap.size 56 XZ.toArray ∧ Below w.heap.size w ((w1.alloc (.cells Z24.toArray 43)).setCells w1.heap.size 0 XP)) := Lib.hid ⟨blk_over (Blk.new w1 _ _) (by rw [HPX.out.1]; rfl), KZ.out.keep hbs, bthen HB.out hbs⟩
  clear b1 hal hbs HGet
  go_upto_region 2 with (refine wpList_store_mid rfl 43 (.tmp 6) (.tmp 15) rfl w1.heap.size 0 XP.toArray rfl rfl HT6.out HPX.out.2.2.1 HPX.out.2.2.2 ?_)
  refine fin (fun W => Blk W w1.heap.size 43 XP.toArray ∧ Blk W w.heap.size 56 XZ.toArray ∧ Below w.heap.size w W) HE6.out ?_
  clear HE6 HT6 KZ HB
  obtain ⟨g6, hg6⟩ : ∃ g6, g6 = w1.heap.size := ⟨_, rfl⟩
  rw [← hg6] at z4 ⊢
  rintro W2 ⟨k6, k4, hbl⟩
  have K6 := Lib.hid k6
  have K4 := Lib.hid k4
  have HB := Lib.hid hbl
  clear k6 k4 hbl hg6
  cases ok with
  | false =>
    have HNe : Hid (nodeX X id = n0d) := Lib.hid (by rw [HN.out]; rfl)
    have HT4 : Hid (W2.there w.heap.size 0 XZ.toArray.size) := Lib.hid (blk_there K4.out (by rw [List.size_toArray]; omega))
    have L4 : Hid (Blk (W2.setCells w.heap.size 0 XZ) w.heap.size 56 XZ.toArray) := Lib.hid (blk_over K4.out rfl)
    go_wp2_with (first | refine wpList_bldz rfl 56 rfl (.agg XZ.toArray) HBz.out ?_ | refine wpList_store_mid rfl 56 (.tmp 4) (.tmp 19) rfl w.heap.size 0 XZ.toArray rfl rfl HT4.out HZ.out.sizea HZ.out.onea ?_)
    refine fin (fun W => Blk W w.heap.size 56 XZ.toArray ∧ Below w.heap.size w W) ⟨L4.out, below_setCells _ HB.out (Nat.le_refl _)⟩ ?_
    rintro W3 ⟨kr, hbl⟩
    have hl := run_loadVar_mid W3 w.heap.size 0 56 XZ _ (blk_whole kr) Tryz.underlying56 rfl HZ.out.size
    try simp only [Go.Act.put, List.setIfInBounds_toArray, List.set_cons_zero, List.set_cons_succ]
    exact bodyPost_ret (v := .tuple #[.agg XZ.toArray, .bool false]) (results_cell2 Tryz.results16 rfl rfl hl) rfl ⟨XZ, rfl, by rw [HNe.out, HZe.out], hbl⟩
  | true =>
    have hS4 : ∀ W, Below W2.heap.size W2 W → W.cell? ⟨g6, 0, none⟩ = some (.int .i64 hs) := fun W q => (HPC.out W g6 (K6.out.keep q)).1
    go_upto_region 4 with fail
    refine lnode_r4 (id := id) (hs := hs) (hb := hb) (XS := XS) (X1 := X1) (g6 := g6) (fun _ _ d _ _ h => by cases d <;> exact h) hS4 HSame.out HH4.out HBn.out HX1.out ?_
    intro W3 a8 a4 hb3 k8 h8
    have HNe68 : Hid (g6 < a8) := Lib.hid (Nat.lt_of_lt_of_le K6.out.lt h8)
    have HNe8 : Hid (w.heap.size < a8) := Lib.hid (Nat.lt_of_lt_of_le K4.out.lt h8)
    replace K6 := Lib.hid (K6.out.keep hb3)
    replace K4 := Lib.hid (K4.out.keep hb3)
    replace HB := Lib.hid (bthen HB.out hb3)
    rw [HX1e.out] at k8
    have K8 := Lib.hid k8
    clear hS4 hb3 k8 h8 HSame HH4 HBn
    obtain ⟨g8, hg8⟩ : ∃ g8, g8 = a8 := ⟨_, rfl⟩
    rw [← hg8] at K8 HNe68 HNe8 ⊢
    clear hg8
    go_wp2_with fail
    refine (HPar.out W3 HB.out).mono ?_
    rintro e w4 ⟨rfl, b4⟩
    replace K8 := Lib.hid (K8.out.keep b4)
    replace K6 := Lib.hid (K6.out.keep b4)
    replace K4 := Lib.hid (K4.out.keep b4)
    replace HB := Lib.hid (bthen HB.out b4)
    clear b4 HPar
    rcases HUp.out with ⟨rfl, hup⟩ | ⟨rfl, hup⟩
    · have HE7 : Hid (Blk w4 g8 56 (cNd ⟨id, up, sameM, hb⟩).toArray ∧ Blk w4 g6 43 XP.toArray ∧ Blk w4 w.heap.size 56 XZ.toArray ∧ Below w.heap.size w w4) := Lib.hid ⟨by rw [hup]; exact K8.out, K6.out, K4.out, HB.out⟩
      clear HUp hup
      go_upto_region 8 with fail
      refine fin (fun W => Blk W g8 56 (cNd ⟨id, up, sameM, hb⟩).toArray ∧ Blk W g6 43 XP.toArray ∧ Blk W w.heap.size 56 XZ.toArray ∧ Below w.heap.size w W) HE7.out ?_
      clear HE7 K8 K6 K4 HB
      rintro W5 ⟨k8, k6, k4, hbl⟩
      have HL8 := Lib.hid (alloc_below W5 (.cells #[.int .i64 0] 109))
      have K8 := Lib.hid (k8.keep HL8.out)
      have K6 := Lib.hid (k6.keep HL8.out)
      have K4 := Lib.hid (k4.keep HL8.out)
      have HB := Lib.hid (bthen hbl HL8.out)
      obtain ⟨c6, -⟩ := HPC.out _ g6 k6
      have z6 := k6.lt
      have z8 := k8.lt
      clear k8 k6 k4 hbl HL8
      go_wp2_with fail
      refine (HH0.out _ _ (row1 _ _ _)).mono ?_
      rintro e w5 ⟨rfl, rfl⟩
      clear HH0 c6 z6 z8
      refine fin (fun W => Blk W g8 56 (cNd ⟨id, up, sameM, hb⟩).toArray ∧ Blk W g6 43 XP.toArray ∧ Blk W w.heap.size 56 XZ.toArray ∧ Below w.heap.size w W) ⟨K8.out, K6.out, K4.out, HB.out⟩ ?_
      clear K8 K6 K4 HB
      rintro W6 ⟨k8, k6, k4, hbl⟩
      have K8 := Lib.hid k8
      have K6 := Lib.hid k6
      have K4 := Lib.hid k4
      have HB := Lib.hid hbl
      clear k8 k6 k4 hbl
      obtain ⟨-, r6⟩ := HPC.out _ g6 K6.out
      have HR6 := Lib.hid r6
      have z6 := K6.out.lt
      have z8 := K8.out.lt
      clear r6
      cases pb with
      | false =>
        go_upto_region 10 with fail
        have HNe : Hid (nodeX X id = ⟨id, up, sameM, hb⟩) := Lib.hid (by rw [HN.out]; rfl)
        obtain ⟨X2, hX2⟩ : ∃ X2, X2 = cNd ⟨id, up, sameM, hb⟩ := ⟨_, rfl⟩
        have HX2 := Lib.hid (HXf.out ⟨id, up, sameM, hb⟩)
        have k8 := K8.out
        rw [← hX2] at HX2 k8
        have HX2e := Lib.hid hX2
        clear hX2
        have HR8 := Lib.hid (blk_whole k8)
        have HT4 : Hid (W6.there w.heap.size 0 X2.toArray.size) := Lib.hid (blk_there K4.out (by rw [List.size_toArray, HX2.out.len, HZ.out.len]; omega))
        have L4 : Hid (Blk (W6.setCells w.heap.size 0 X2) w.heap.size 56 X2.toArray) := Lib.hid (blk_over K4.out (by rw [HX2.out.len, HZ.out.len]))
        have HB9 := Lib.hid HB.out
        clear k8 K8 K4 HB K6
        go_wp2_with (first | refine wpList_load_mid rfl 56 (.tmp 8) rfl g8 0 rfl X2 _ HR8.out Tryz.underlying56 rfl HX2.out.size ?_ | refine wpList_store_mid rfl 56 (.tmp 4) (.tmp 43) rfl w.heap.size 0 X2.toArray rfl rfl HT4.out HX2.out.sizea HX2.out.onea ?_)
        refine fin (fun W => Blk W w.heap.size 56 X2.toArray ∧ Below w.heap.size w W) ⟨L4.out, below_setCells _ HB9.out (Nat.le_refl _)⟩ ?_
        rintro W3 ⟨kr, hbl⟩
        have hl := run_loadVar_mid W3 w.heap.size 0 56 X2 _ (blk_whole kr) Tryz.underlying56 rfl HX2.out.size
        try simp only [Go.Act.put, List.setIfInBounds_toArray, List.set_cons_zero, List.set_cons_succ]
        exact bodyPost_ret (v := .tuple #[.agg X2.toArray, .bool true]) (results_cell2 Tryz.results16 rfl rfl hl) rfl ⟨X2, rfl, by rw [HNe.out, HX2e.out], hbl⟩
      | true =>
        have HT8 : Hid (W6.there g8 2 ML.toArray.size) := Lib.hid (blk_there K8.out (by rw [List.size_toArray, HMX.out.len, cNd_len]; omega))
        have HE9 : Hid (Blk (W6.setCells g8 2 ML) g8 56 (cNd ⟨id, up, M, hb⟩).toArray ∧ Blk (W6.setCells g8 2 ML) g6 43 XP.toArray ∧ Blk (W6.setCells g8 2 ML) w.heap.size 56 XZ.toArray ∧ Below w.heap.size w (W6.setCells g8 2 ML)) := Lib.hid ⟨by
          have := blk_setCells ML (o := 2) K8.out (by rw [HMX.out.len, cNd_len]; omega)
          rw [HMLe.out, nd_pl] at this
          rw [HMLe.out]
          exact this, blk_setFar ML K6.out (by have := HNe68.out; omega), blk_setFar ML K4.out (by have := HNe8.out; omega), below_setCells ML HB.out (by have := HNe8.out; exact Nat.le_of_lt this)⟩
        go_upto_region 10 with (first | refine wpList_load_mid rfl 37 (.tmp 40) rfl g6 1 rfl ML _ HR6.out Tryz.underlying37 rfl HMX.out.size ?_ | refine wpList_store_mid rfl 37 (.tmp 42) (.tmp 41) rfl g8 2 ML.toArray rfl rfl HT8.out HMX.out.sizea HMX.out.onea ?_)
        refine fin (fun W => Blk W g8 56 (cNd ⟨id, up, M, hb⟩).toArray ∧ Blk W g6 43 XP.toArray ∧ Blk W w.heap.size 56 XZ.toArray ∧ Below w.heap.size w W) HE9.out ?_
        clear HE9 HT8 K8 K6 K4 HB HR6 z6 z8
        rintro W7 ⟨k8, k6, k4, hbl⟩
        have K8 := Lib.hid k8
        have K6 := Lib.hid k6
        have K4 := Lib.hid k4
        have HB := Lib.hid hbl
        have z8 := K8.out.lt
        clear k8 k6 k4 hbl
        have HNe : Hid (nodeX X id = ⟨id, up, M, hb⟩) := Lib.hid (by rw [HN.out]; rfl)
        obtain ⟨X2, hX2⟩ : ∃ X2, X2 = cNd ⟨id, up, M, hb⟩ := ⟨_, rfl⟩
        have HX2 := Lib.hid (HXf.out ⟨id, up, M, hb⟩)
        have k8 := K8.out
        rw [← hX2] at HX2 k8
        have HX2e := Lib.hid hX2
        clear hX2
        have HR8 := Lib.hid (blk_whole k8)
        have HT4 : Hid (W7.there w.heap.size 0 X2.toArray.size) := Lib.hid (blk_there K4.out (by rw [List.size_toArray, HX2.out.len, HZ.out.len]; omega))
        have L4 : Hid (Blk (W7.setCells w.heap.size 0 X2) w.heap.size 56 X2.toArray) := Lib.hid (blk_over K4.out (by rw [HX2.out.len, HZ.out.len]))
        have HB9 := Lib.hid HB.out
        clear k8 K8 K4 HB K6
        go_wp2_with (first | refine wpList_load_mid rfl 56 (.tmp 8) rfl g8 0 rfl X2 _ HR8.out Tryz.underlying56 rfl HX2.out.size ?_ | refine wpList_store_mid rfl 56 (.tmp 4) (.tmp 43) rfl w.heap.size 0 X2.toArray rfl rfl HT4.out HX2.out.sizea HX2.out.onea ?_)
        refine fin (fun W => Blk W w.heap.size 56 X2.toArray ∧ Below w.heap.size w W) ⟨L4.out, below_setCells _ HB9.out (Nat.le_refl _)⟩ ?_
        rintro W3 ⟨kr, hbl⟩
        have hl := run_loadVar_mid W3 w.heap.size 0 56 X2 _ (blk_whole kr) Tryz.underlying56 rfl HX2.out.size
        try simp only [Go.Act.put, List.setIfInBounds_toArray, List.set_cons_zero, List.set_cons_succ]
        exact bodyPost_ret (v := .tuple #[.agg X2.toArray, .bool true]) (results_cell2 Tryz.results16 rfl rfl hl) rfl ⟨X2, rfl, by rw [HNe.out, HX2e.out], hbl⟩
    · have c1 := K8.out.cell 1
      have f1 := K8.out.frozen 1
      have z8 := K8.out.lt
      have HE7 : Hid (Blk (w4.setCell ⟨g8, 1, none⟩ (.int .i64 pv)) g8 56 (cNd ⟨id, up, sameM, hb⟩).toArray ∧ Blk (w4.setCell ⟨g8, 1, none⟩ (.int .i64 pv)) g6 43 XP.toArray ∧ Blk (w4.setCell ⟨g8, 1, none⟩ (.int .i64 pv)) w.heap.size 56 XZ.toArray ∧ Below w.heap.size w (w4.setCell ⟨g8, 1, none⟩ (.int .i64 pv))) := Lib.hid ⟨by have := K8.out.set_ 1 (.int .i64 pv); rw [nd_par] at this; rw [hup]; exact this, K6.out.same (Go.Deep.blk_setCell_other _ _ _ _ (by show g6 ≠ g8; have := HNe68.out; omega)), K4.out.same (Go.Deep.blk_setCell_other _ _ _ _ (by show w.heap.size ≠ g8; have := HNe8.out; omega)), HB.out.setCell (p := ⟨g8, 1, none⟩) (by have := HNe8.out; exact Nat.le_of_lt this) _⟩
      clear HUp hup
      go_upto_region 8 with fail
      clear c1 f1 z8
      refine fin (fun W => Blk W g8 56 (cNd ⟨id, up, sameM, hb⟩).toArray ∧ Blk W g6 43 XP.toArray ∧ Blk W w.heap.size 56 XZ.toArray ∧ Below w.heap.size w W) HE7.out ?_
      clear HE7 K8 K6 K4 HB
      rintro W5 ⟨k8, k6, k4, hbl⟩
      have HL8 := Lib.hid (alloc_below W5 (.cells #[.int .i64 0] 109))
      have K8 := Lib.hid (k8.keep HL8.out)
      have K6 := Lib.hid (k6.keep HL8.out)
      have K4 := Lib.hid (k4.keep HL8.out)
      have HB := Lib.hid (bthen hbl HL8.out)
      obtain ⟨c6, -⟩ := HPC.out _ g6 k6
      have z6 := k6.lt
      have z8 := k8.lt
      clear k8 k6 k4 hbl HL8
      go_wp2_with fail
      refine (HH0.out _ _ (row1 _ _ _)).mono ?_
      rintro e w5 ⟨rfl, rfl⟩
      clear HH0 c6 z6 z8
      refine fin (fun W => Blk W g8 56 (cNd ⟨id, up, sameM, hb⟩).toArray ∧ Blk W g6 43 XP.toArray ∧ Blk W w.heap.size 56 XZ.toArray ∧ Below w.heap.size w W) ⟨K8.out, K6.out, K4.out, HB.out⟩ ?_
      clear K8 K6 K4 HB
      rintro W6 ⟨k8, k6, k4, hbl⟩
      have K8 := Lib.hid k8
      have K6 := Lib.hid k6
      have K4 := Lib.hid k4
      have HB := Lib.hid hbl
      clear k8 k6 k4 hbl
      obtain ⟨-, r6⟩ := HPC.out _ g6 K6.out
      have HR6 := Lib.hid r6
      have z6 := K6.out.lt
      have z8 := K8.out.lt
      clear r6
      cases pb with
      | false =>
        go_upto_region 10 with fail
        have HNe : Hid (nodeX X id = ⟨id, up, sameM, hb⟩) := Lib.hid (by rw [HN.out]; rfl)
        obtain ⟨X2, hX2⟩ : ∃ X2, X2 = cNd ⟨id, up, sameM, hb⟩ := ⟨_, rfl⟩
        have HX2 := Lib.hid (HXf.out ⟨id, up, sameM, hb⟩)
        have k8 := K8.out
        rw [← hX2] at HX2 k8
        have HX2e := Lib.hid hX2
        clear hX2
        have HR8 := Lib.hid (blk_whole k8)
        have HT4 : Hid (W6.there w.heap.size 0 X2.toArray.size) := Lib.hid (blk_there K4.out (by rw [List.size_toArray, HX2.out.len, HZ.out.len]; omega))
        have L4 : Hid (Blk (W6.setCells w.heap.size 0 X2) w.heap.size 56 X2.toArray) := Lib.hid (blk_over K4.out (by rw [HX2.out.len, HZ.out.len]))
        have HB9 := Lib.hid HB.out
        clear k8 K8 K4 HB K6
        go_wp2_with (first | refine wpList_load_mid rfl 56 (.tmp 8) rfl g8 0 rfl X2 _ HR8.out Tryz.underlying56 rfl HX2.out.size ?_ | refine wpList_store_mid rfl 56 (.tmp 4) (.tmp 43) rfl w.heap.size 0 X2.toArray rfl rfl HT4.out HX2.out.sizea HX2.out.onea ?_)
        refine fin (fun W => Blk W w.heap.size 56 X2.toArray ∧ Below w.heap.size w W) ⟨L4.out, below_setCells _ HB9.out (Nat.le_refl _)⟩ ?_
        rintro W3 ⟨kr, hbl⟩
        have hl := run_loadVar_mid W3 w.heap.size 0 56 X2 _ (blk_whole kr) Tryz.underlying56 rfl HX2.out.size
        try simp only [Go.Act.put, List.setIfInBounds_toArray, List.set_cons_zero, List.set_cons_succ]
        exact bodyPost_ret (v := .tuple #[.agg X2.toArray, .bool true]) (results_cell2 Tryz.results16 rfl rfl hl) rfl ⟨X2, rfl, by rw [HNe.out, HX2e.out], hbl⟩
      | true =>
        have HT8 : Hid (W6.there g8 2 ML.toArray.size) := Lib.hid (blk_there K8.out (by rw [List.size_toArray, HMX.out.len, cNd_len]; omega))
        have HE9 : Hid (Blk (W6.setCells g8 2 ML) g8 56 (cNd ⟨id, up, M, hb⟩).toArray ∧ Blk (W6.setCells g8 2 ML) g6 43 XP.toArray ∧ Blk (W6.setCells g8 2 ML) w.heap.size 56 XZ.toArray ∧ Below w.heap.size w (W6.setCells g8 2 ML)) := Lib.hid ⟨by
          have := blk_setCells ML (o := 2) K8.out (by rw [HMX.out.len, cNd_len]; omega)
          rw [HMLe.out, nd_pl] at this
          rw [HMLe.out]
          exact this, blk_setFar ML K6.out (by have := HNe68.out; omega), blk_setFar ML K4.out (by have := HNe8.out; omega), below_setCells ML HB.out (by have := HNe8.out; exact Nat.le_of_lt this)⟩
        go_upto_region 10 with (first | refine wpList_load_mid rfl 37 (.tmp 40) rfl g6 1 rfl ML _ HR6.out Tryz.underlying37 rfl HMX.out.size ?_ | refine wpList_store_mid rfl 37 (.tmp 42) (.tmp 41) rfl g8 2 ML.toArray rfl rfl HT8.out HMX.out.sizea HMX.out.onea ?_)
        refine fin (fun W => Blk W g8 56 (cNd ⟨id, up, M, hb⟩).toArray ∧ Blk W g6 43 XP.toArray ∧ Blk W w.heap.size 56 XZ.toArray ∧ Below w.heap.size w W) HE9.out ?_
        clear HE9 HT8 K8 K6 K4 HB HR6 z6 z8
        rintro W7 ⟨k8, k6, k4, hbl⟩
        have K8 := Lib.hid k8
        have K6 := Lib.hid k6
        have K4 := Lib.hid k4
        have HB := Lib.hid hbl
        have z8 := K8.out.lt
        clear k8 k6 k4 hbl
        have HNe : Hid (nodeX X id = ⟨id, up, M, hb⟩) := Lib.hid (by rw [HN.out]; rfl)
        obtain ⟨X2, hX2⟩ : ∃ X2, X2 = cNd ⟨id, up, M, hb⟩ := ⟨_, rfl⟩
        have HX2 := Lib.hid (HXf.out ⟨id, up, M, hb⟩)
        have k8 := K8.out
        rw [← hX2] at HX2 k8
        have HX2e := Lib.hid hX2
        clear hX2
        have HR8 := Lib.hid (blk_whole k8)
        have HT4 : Hid (W7.there w.heap.size 0 X2.toArray.size) := Lib.hid (blk_there K4.out (by rw [List.size_toArray, HX2.out.len, HZ.out.len]; omega))
        have L4 : Hid (Blk (W7.setCells w.heap.size 0 X2) w.heap.size 56 X2.toArray) := Lib.hid (blk_over K4.out (by rw [HX2.out.len, HZ.out.len]))
        have HB9 := Lib.hid HB.out
        clear k8 K8 K4 HB K6
        go_wp2_with (first | refine wpList_load_mid rfl 56 (.tmp 8) rfl g8 0 rfl X2 _ HR8.out Tryz.underlying56 rfl HX2.out.size ?_ | refine wpList_store_mid rfl 56 (.tmp 4) (.tmp 43) rfl w.heap.size 0 X2.toArray rfl rfl HT4.out HX2.out.sizea HX2.out.onea ?_)
        refine fin (fun W => Blk W w.heap.size 56 X2.toArray ∧ Below w.heap.size w W) ⟨L4.out, below_setCells _ HB9.out (Nat.le_refl _)⟩ ?_
        rintro W3 ⟨kr, hbl⟩
        have hl := run_loadVar_mid W3 w.heap.size 0 56 X2 _ (blk_whole kr) Tryz.underlying56 rfl HX2.out.size
        try simp only [Go.Act.put, List.setIfInBounds_toArray, List.set_cons_zero, List.set_cons_succ]
        exact bodyPost_ret (v := .tuple #[.agg X2.toArray, .bool true]) (results_cell2 Tryz.results16 rfl rfl hl) rfl ⟨X2, rfl, by rw [HNe.out, HX2e.out], hbl⟩
end
end Go.Proofs.YtkondkajpmafkaaGreat
