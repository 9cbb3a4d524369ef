/-
  6 texts in one file, each with its own heading.
-/
import Derived.Test.YtkondkajpmafkaaGreatMP28
import Derived.Test.YtkondkajpmafkaaGreatMP26
/-
  The reference's forest where it lies in the reference's scene (cell 1 of its block): what its Parent, Above, Free, Set, Children and Drop of layer 9 answer.
-/
namespace Go.Proofs.YtkondkajpmafkaaGreat
open Go.RowKit

section
variable {sp : Value} {w w' : World} {g : Nat} {v : Value} {L : FT} {F : Nat → Prop}
structure RG (sp : Value) (w : World) (g : Nat) (v : Value) (L : FT) : Prop where
  blk : Blk w g 82 #[sp, v]
  col : ColP w v L
  off : v.ownBlock ≠ some g
def RGB (sp : Value) (w : World) (g : Nat) (F : Nat → Prop) (L : FT) : Prop := ∃ v, RG sp w g v L ∧ ∀ b, F b ↔ footF g v b
theorem RG.inb (h : RG sp w g v L) : ∀ b, footF g v b → b < w.heap.size := by
  rintro b (rfl | e)
  · exact h.blk.lt
  · exact (World.ownsRow.lt h.col b e).2
theorem RG.same (h : RG sp w g v L) (he : ∀ b, footF g v b → w'.heap[b]? = w.heap[b]?) : RG sp w' g v L :=
  ⟨h.blk.same (he g (Or.inl rfl)), ColX.same h.col (fun b e => he b (Or.inr e)), h.off⟩
theorem RG.keep (h : RG sp w g v L) (hb : Below w.heap.size w w') : RG sp w' g v L := h.same (fun b hf => hb.block b (h.inb b hf))
theorem RGB.keep (h : RGB sp w g F L) (hb : Below w.heap.size w w') : RGB sp w' g F L := by
  obtain ⟨v, h1, h2⟩ := h
  exact ⟨v, h1.keep hb, h2⟩
theorem RGB.inH (h : RGB sp w g F L) : g < w.heap.size := by
  obtain ⟨v, h1, h2⟩ := h
  exact h1.blk.lt
theorem RG.reads (h : RG sp w g v L) : ∃ a cap, v = .slice a L.length cap ∧ L.length ≤ cap ∧ cap ≤ maxLen ∧ ∀ u, Below w.heap.size w u → u.cell? ⟨g, 1, none⟩ = some (.slice a L.length cap) ∧ g < u.heap.size ∧ ∀ j x, L[j]? = some x → ∃ b, a = some ⟨b, 0, none⟩ ∧ b < u.heap.size ∧ u.cell? ⟨b, j * 2, none⟩ = some (.int .i64 x.1) ∧ u.cell? ⟨b, j * 2 + 1, none⟩ = some (.int .i64 x.2) := by
  obtain ⟨a, cap, hv, hcap, hmax⟩ := ColX.form h.col
  rw [List.length_map] at hv hcap
  subst hv
  refine ⟨a, cap, rfl, hcap, hmax, fun u q => ?_⟩
  have h1 := h.keep q
  refine ⟨h1.blk.cell 1, h1.blk.lt, fun j x hx => ?_⟩
  have hj := (List.getElem?_eq_some_iff.1 hx).1
  obtain ⟨b, cap', cur, hvv, hbk, _⟩ := ColX.open_ h1.col (by rw [List.length_map]; omega)
  injection hvv with hvv _ _
  subst hvv
  have hr := ColX.range (c := cPr) (k := 2) (fun _ => rfl) h1.col (i := j) (x := mkPr x) (by rw [List.getElem?_map, hx]; rfl)
  exact ⟨b, rfl, hbk.lt, hr 0 _ rfl, hr 1 _ rfl⟩
set_option maxHeartbeats 2000000 in
set_option maxRecDepth 100000 in
theorem sparent_any {w : World} {g : Nat} {v : Value} {L : FT} (h : RG sp w g v L) (x : Int) :
    Calls Tryz.prog 44 #[.pointer (some ⟨g, 1, none⟩), .int .i64 x] w fun e w' => e = .returned (.tuple #[.int .i64 (parV (parO L x)), .bool (parO L x).isSome]) ∧ w = w' := by
  obtain ⟨a, cap, hv, hcap, hmax, hrd⟩ := h.reads
  obtain ⟨c0, hg, hrow⟩ := hrd w (Below.refl _ _)
  have HRow := Lib.hid hrow
  obtain ⟨n, hn⟩ : ∃ n, n = L.length := ⟨_, rfl⟩
  rw [← hn] at c0 hcap
  have HN := Lib.hid hn
  unfold maxLen at hmax
  clear h hv hrd hrow hn
  go_enter Tryz.func44, Tryz.ntmps44
  go_wp2
  go_loopw [6] (fun i wr => ∃ k : Nat, k ≤ n ∧ i = .int .i64 k ∧ parO (L.take k) x = none ∧ wr = w) (fun i _ => n - (ivl i).toNat)
  case atStart => exact ⟨0, by omega, rfl, rfl, rfl⟩
  case round =>
    obtain ⟨k, hk, rfl, hz, rfl⟩ := hrel
    have HZ := Lib.hid hz
    clear hz
    by_cases hlt : k < n
    · obtain ⟨q, hq⟩ : ∃ q, L[k]? = some q := ⟨_, List.getElem?_eq_getElem (by rw [← HN.out]; exact hlt)⟩
      obtain ⟨b, rfl, hbl, c1, c2⟩ := HRow.out k q hq
      have HQ := Lib.hid hq
      obtain ⟨q1, q2⟩ := q
      simp only at c1 c2
      have k0 : (0 : Int) ≤ (k : Int) := by omega
      have k1 : (k : Int) < (n : Int) := by omega
      clear hq
      by_cases he : q1 = x
      · have he' : (q1 == x) = true := by simpa using he
        have HP := Lib.hid (par_take_yes HZ.out HQ.out he)
        clear he
        go_wp2
        go_ret2
        exact ⟨by rw [HP.out]; rfl, rfl⟩
      · have he' : (q1 == x) = false := by simpa using he
        have HP := Lib.hid (par_take_no HZ.out HQ.out he)
        clear he
        go_wp2
        go_roundw
        case rel => exact ⟨k + 1, by omega, by go_num, HP.out, by trivial⟩
        case measure => simp [ivl] <;> omega
    · obtain rfl : k = n := by omega
      have HP : Hid (parO L x = none) := Lib.hid (by have := HZ.out; rwa [List.take_of_length_le (by rw [HN.out]; exact Nat.le_refl _)] at this)
      have j1 : ¬ (k : Int) < (k : Int) := by omega
      go_wp2
      go_ret2
      exact ⟨by rw [HP.out]; rfl, rfl⟩
set_option maxHeartbeats 2000000 in
set_option maxRecDepth 100000 in
theorem sabove_any {w : World} {g : Nat} {v : Value} {L : FT} (h : RG sp w g v L) (hW : WF L) (hL : L.length ≤ 1000) (x : Int) :
    Calls Tryz.prog 112 #[.pointer (some ⟨g, 1, none⟩), .int .i64 x] w fun e w' => ∃ v, e = .returned v ∧ LRes w w' (abv L x) v ∧ Below w.heap.size w w' := by
  have HP : Hid (∀ u z, Below w.heap.size w u → Calls Tryz.prog 44 #[.pointer (some ⟨g, 1, none⟩), .int .i64 z] u fun e w' => e = .returned (.tuple #[.int .i64 (parV (parO L z)), .bool (parO L z).isSome]) ∧ u = w') := Lib.hid (fun u z q => sparent_any (h.keep q) z)
  have hg := h.blk.lt
  have HW := Lib.hid hW
  have HAl := Lib.hid (abv_len hW x)
  obtain ⟨i0, hi0, hz0, hz1, hz2⟩ := info_parts id_info
  have HI := Lib.hid (And.intro hi0 (And.intro hz0 (And.intro hz1 hz2)))
  clear h hi0 hz0 hz1 hz2 hW
  go_enter Tryz.func112, Tryz.ntmps112
  go_wp2_with fail
  refine (HP.out _ _ (Below.refl _ _)).mono ?_
  rintro e w1 ⟨rfl, rfl⟩
  go_wp2
  go_loopw [5, 6, 7] (fun v5 v6 v7 wr => ∃ (pre : List Int) (z : Int), v6 = .int .i64 (parV (parO L z)) ∧ v7 = .bool (parO L z).isSome ∧ abv L x = pre ++ abv L z ∧ OwnD wr w.heap.size v5 pre.length pre ∧ Below w.heap.size w wr) (fun _ v6 v7 _ => match v7 with | .bool true => abM L v6 | _ => 0)
  case atStart => exact ⟨[], x, rfl, rfl, rfl, OwnD.nil _ _, Below.refl _ _⟩
  case round =>
    obtain ⟨pre, z, rfl, rfl, hab, hown, hb⟩ := hrel
    have HAb := Lib.hid hab
    have HOwn := Lib.hid hown
    have HB := Lib.hid hb
    have hsz : w.heap.size ≤ wr.heap.size := hb.size
    have hgw : g < wr.heap.size := Nat.lt_of_lt_of_le hg hsz
    have hpl : pre.length ≤ 1000 := by have h1 := HAl.out; rw [hab, List.length_append] at h1; omega
    clear hab hown hb
    cases hpz : parO L z with
    | none =>
      have HR : Hid (abv L x = pre) := Lib.hid (by rw [HAb.out, abv_none HW.out hpz, List.append_nil])
      obtain ⟨qa, qcap, hqv, hqr⟩ := HOwn.out.row
      have HLr := Lib.hid (LRes.of9 (w := w) HOwn.out (Nat.le_refl _))
      subst hqv
      clear hqr hpz
      go_wp2
      go_ret
      exact ⟨_, rfl, by rw [HR.out]; exact HLr.out, HB.out⟩
    | some y =>
      have HE := Lib.hid (abv_some HW.out hpz)
      have HX : Hid (abv L x = (pre ++ [y]) ++ abv L y) := Lib.hid (by rw [HAb.out, HE.out, List.append_assoc]; rfl)
      obtain ⟨n, hn⟩ : ∃ n, n = pre.length := ⟨_, rfl⟩
      rw [← hn] at HOwn hpl
      have HN := Lib.hid hn
      clear hpz hn
      have e1 : parV (some y) = y := rfl
      rw [e1]
      go_wp2_with (at_builtin; refine wpList_append_own _ rfl (.tmp 15) (.tmp 17) 53 rfl w.heap.size 31 i0 (.int .i64 0) 1 8 Tryz.underlying53 HI.out.1 HI.out.2.1 HI.out.2.2.1 HI.out.2.2.2 rfl (by decide) _ _ _ rfl (HOwn.out.alloc _) ⟨wr.heap.size, 0, none⟩ 1 1 [.int .i64 y] rfl rfl (cell_one_new _ _ _) (by intro u hu; simp at hu; subst hu; rfl) (by unfold maxLen; omega) (by omega) (by simp; omega) ?_)
      intro v' w2 hown' hgrow _
      have HOwn' := Lib.hid hown'
      have HB2 := Lib.hid (grownD_below HOwn.out (Nat.le_refl _) HB.out hsz hgrow)
      clear hown' hgrow
      go_wp2_with fail
      refine (HP.out _ y HB2.out).mono ?_
      rintro e w3 ⟨rfl, rfl⟩
      go_wp2
      go_roundw
      case rel =>
        refine ⟨pre ++ [y], y, rfl, rfl, HX.out, ?_, HB2.out⟩
        rw [List.length_append, ← HN.out]
        unfold OwnD
        rw [List.map_append]
        exact HOwn'.out
      case measure =>
        show _ < abM L (.int .i64 y)
        have hlt : ∀ o, parO L y = o → (match (Value.bool o.isSome) with | .bool true => abM L (.int .i64 (parV o)) | _ => 0) < abM L (.int .i64 y) := fun o ho => by
          cases o with
          | none => show 0 < _; unfold abM; omega
          | some y2 =>
            show abM L (.int .i64 y2) < _
            unfold abM
            show (abv L y2).length + 1 < (abv L y).length + 1
            rw [abv_some HW.out ho, List.length_cons]
            omega
        exact hlt _ rfl
theorem RG.stored {w wb : World} {g : Nat} {v u : Value} {L L' : FT} {F : Nat → Prop} (h : RG sp w g v L) (hF : ∀ b, F b ↔ footF g v b) (hb : Below w.heap.size w wb) (hc : ColP wb u L') (hu : ∀ b, u.ownBlock = some b → w.heap.size ≤ b) : ChF (RGB sp) w (wb.setCell ⟨g, 1, none⟩ u) g F L' := by
  have hgl := h.blk.lt
  have hst : ∀ b, b ≠ g → (wb.setCell ⟨g, 1, none⟩ u).heap[b]? = wb.heap[b]? := fun b c => Go.Deep.blk_setCell_other _ _ _ _ c
  have hug : u.ownBlock ≠ some g := fun e => by have := hu g e; omega
  refine ⟨footF g u, ⟨u, ⟨(h.keep hb).blk.set_ 1 u, ColX.same hc (fun b e => hst b (fun c => hug (c ▸ e))), hug⟩, fun _ => Iff.rfl⟩, ⟨hb.os, hb.tape, hb.output, Nat.le_trans hb.size (by simp [World.setCell]), fun b hl hn => ?_⟩, ?_⟩
  · rw [hst b (fun c => hn ((hF b).2 (Or.inl c)))]
    exact hb.block b hl
  · rintro b (e | e)
    · exact Or.inl ((hF b).2 (Or.inl e))
    · exact Or.inr (hu b e)
set_option maxHeartbeats 4000000 in
set_option maxRecDepth 100000 in
theorem sfree_any {w : World} {g : Nat} {F : Nat → Prop} {L : FT} (h0 : RGB sp w g F L) (hL : L.length ≤ 1000) (x : Int) :
    Calls Tryz.prog 74 #[.pointer (some ⟨g, 1, none⟩), .int .i64 x] w fun e w' => e = .returned (.bool (parO L x).isSome) ∧ ChF (RGB sp) w w' g F (freeF L x) := by
  obtain ⟨v, h, hF⟩ := h0
  have HP := Lib.hid (sparent_any h x)
  obtain ⟨a, cap, hv, hcap, hmax, hrd⟩ := h.reads
  have HRd := Lib.hid hrd
  have HH := Lib.hid (And.intro h hF)
  obtain ⟨n, hn⟩ : ∃ n, n = L.length := ⟨_, rfl⟩
  rw [← hn] at hcap HRd hL
  have HN := Lib.hid hn
  unfold maxLen at hmax
  obtain ⟨had, hhad⟩ : ∃ had, had = (parO L x).isSome := ⟨_, rfl⟩
  obtain ⟨pv, hpv⟩ : ∃ pv, pv = parV (parO L x) := ⟨_, rfl⟩
  rw [← hhad, ← hpv] at HP
  rw [← hhad]
  clear h hF hv hrd hn hhad hpv
  go_enter Tryz.func74, Tryz.ntmps74
  go_wp2_with fail
  refine HP.out.mono ?_
  rintro e w1 ⟨rfl, rfl⟩
  go_wp2
  go_loopw [7, 8] (fun v7 i wr => ∃ k : Nat, k ≤ n ∧ i = .int .i64 k ∧ ColP wr v7 (freeF (L.take k) x) ∧ (∀ b, v7.ownBlock = some b → w.heap.size ≤ b) ∧ Below w.heap.size w wr) (fun _ i _ => n - (ivl i).toNat)
  case atStart => exact ⟨0, by omega, rfl, ColX.nil _ _ _ _, fun b e => (by cases e), Below.refl _ _⟩
  case round =>
    obtain ⟨k, hk, rfl, hcol, hown, hb⟩ := hrel
    have HCol := Lib.hid hcol
    have HOwn := Lib.hid hown
    have HB := Lib.hid hb
    obtain ⟨c0, hg, hrow⟩ := HRd.out wr hb
    clear hcol hown hb
    by_cases hlt : k < n
    · obtain ⟨m, hm⟩ : ∃ m, L[k]? = some m := ⟨_, List.getElem?_eq_getElem (by rw [← HN.out]; exact hlt)⟩
      obtain ⟨b, rfl, hbl, c1, c2⟩ := hrow k m hm
      obtain ⟨m1, m2⟩ := m
      simp only at c1 c2
      have HM := Lib.hid hm
      have j0 : (0 : Int) ≤ (k : Int) := by omega
      have j1 : (k : Int) < (n : Int) := by omega
      clear hm hrow
      by_cases he : m1 = x
      · have he' : (m1 != x) = false := by simpa using he
        have HK := Lib.hid (free_no HM.out he)
        clear he
        go_wp2
        go_roundw
        case rel => exact ⟨k + 1, by omega, by go_num, by rw [HK.out]; exact HCol.out, HOwn.out, HB.out⟩
        case measure => simp [ivl] <;> omega
      · have he' : (m1 != x) = true := by simpa using he
        have HK := Lib.hid (free_yes HM.out he)
        clear he
        obtain ⟨Q, hQ⟩ : ∃ Q, Q = freeF (L.take k) x := ⟨_, rfl⟩
        rw [← hQ] at HCol HK
        have hql : (Q.map mkPr).length ≤ 2000 := by
          rw [List.length_map, hQ]
          have := free_len (L.take k) x
          rw [List.length_take] at this
          omega
        clear hQ
        obtain ⟨Qm, hQm⟩ : ∃ Qm, Qm = Q.map mkPr := ⟨_, rfl⟩
        rw [← hQm] at hql
        have HQm := Lib.hid hQm
        replace HCol : Hid (ColX wr 143 2 cPr u7 Qm) := Lib.hid (by rw [hQm]; exact HCol.out)
        clear hQm
        go_wp2_with (at_builtin; refine wpList_appC rfl (.tmp 34) (.tmp 42) 78 143 2 16 (.agg #[.int .i64 0, .int .i64 0]) cPr rfl Tryz.underlying78 pinfo rfl (by decide) (by decide) (fun _ => rfl) u7 Qm rfl (col_keep HCol.out (alloc_below _ _)) hql (mkPr (m1, m2)) [.int .i64 m1, .int .i64 m2] rfl (pone m1 m2) wr.heap.size (Blk.new _ _ _) rfl ?_)
        intro gu gcap w4 hc hgr hat
        have HX4 := Lib.hid (app_out9 HB.out HOwn.out hgr (by simpa using hat))
        have HC4 : Hid (ColP w4 (.slice (some ⟨gu, 0, none⟩) (Qm.length + 1) gcap) (freeF (L.take (k + 1)) x)) := Lib.hid (by
          show ColX w4 _ 2 cPr _ ((freeF (L.take (k + 1)) x).map mkPr)
          rw [HK.out, List.map_append, ← HQm.out]; exact hc)
        clear hc hgr hat
        generalize Qm.length + 1 = nn at HC4 ⊢
        go_wp2
        go_roundw
        case rel => exact ⟨k + 1, by omega, by go_num, HC4.out, fun b e => by
          have : gu = b := by simpa [Value.ownBlock] using e
          rw [← this]; exact HX4.out.2, HX4.out.1⟩
        case measure => simp [ivl] <;> omega
    · obtain rfl : k = n := by omega
      rw [List.take_of_length_le (by rw [← HN.out]; exact Nat.le_refl _)] at HCol
      have f0 : wr.frozen? ⟨g, 1, none⟩ = false := (HH.out.1.keep HB.out).blk.frozen 1
      have HS := Lib.hid (HH.out.1.stored HH.out.2 HB.out HCol.out HOwn.out)
      have j1 : ¬ (k : Int) < (k : Int) := by omega
      obtain ⟨qa, qcap, hqv, _, _⟩ := ColX.form HCol.out
      subst hqv
      clear hrow
      go_wp2
      go_ret
      exact ⟨rfl, by have h9 := HS.out; rw [List.length_map] at h9; exact h9⟩
set_option maxHeartbeats 4000000 in
set_option maxRecDepth 100000 in
theorem sset_any {w : World} {g : Nat} {F : Nat → Prop} {L : FT} (h0 : RGB sp w g F L) (hW : WF L) (hL : L.length ≤ 1000) (c p : Int) :
    Calls Tryz.prog 73 #[.pointer (some ⟨g, 1, none⟩), .int .i64 c, .int .i64 p] w fun e w' => e = .returned (.int .i64 (fsetE L c p)) ∧ ChF (RGB sp) w w' g F (setS9 L c p) := by
  have H0 := Lib.hid h0
  have hg := h0.inH
  have HA : Hid (Calls Tryz.prog 112 #[.pointer (some ⟨g, 1, none⟩), .int .i64 p] w fun e w' => ∃ v, e = .returned v ∧ LRes w w' (abv L p) v ∧ Below w.heap.size w w') := Lib.hid (by
    obtain ⟨v, h, hF⟩ := h0
    exact sabove_any h hW hL p)
  have HFr : Hid (∀ u, Below w.heap.size w u → Calls Tryz.prog 74 #[.pointer (some ⟨g, 1, none⟩), .int .i64 c] u fun e w' => e = .returned (.bool (parO L c).isSome) ∧ ChF (RGB sp) w w' g F (freeF L c)) := Lib.hid (fun u q => (sfree_any (h0.keep q) hL c).mono fun _ _ z => ⟨z.1, z.2.of q⟩)
  obtain ⟨b, hb⟩ : ∃ b, b = decide (c ∈ abv L p) := ⟨_, rfl⟩
  have HHas : Hid (∀ u a n cap, Row u a n (abv L p) → Calls Tryz.prog 20 #[.slice a n cap, .int .i64 c] u fun e w' => e = .returned (.bool b) ∧ u = w') := Lib.hid (fun u a n cap row => by rw [hb]; exact plhas_any a n cap (abv L p) c u row)
  have HB := Lib.hid hb
  obtain ⟨had, hhad⟩ : ∃ had, had = (parO L c).isSome := ⟨_, rfl⟩
  rw [← hhad] at HFr
  clear h0 hW hb hhad
  go_enter Tryz.func73, Tryz.ntmps73
  go_wp2_with fail
  refine HA.out.mono ?_
  rintro e w1 ⟨v, rfl, ⟨va, vcap, hv, vrow, -⟩, b1⟩
  subst hv
  have HVr := Lib.hid vrow
  have HB1 := Lib.hid b1
  have hg1 : g < w1.heap.size := Nat.lt_of_lt_of_le hg b1.size
  clear vrow b1 HA
  go_wp2_with fail
  refine (HHas.out _ _ _ _ HVr.out).mono ?_
  rintro e w2 ⟨rfl, rfl⟩
  have HStill : Hid (ChF (RGB sp) w w1 g F L) := Lib.hid ⟨F, H0.out.keep HB1.out, ⟨HB1.out.os, HB1.out.tape, HB1.out.output, HB1.out.size, fun q hq _ => HB1.out.block q hq⟩, fun _ h => Or.inl h⟩
  cases b with
  | true =>
    have HE : Hid (fsetE L c p = 8) := Lib.hid (by unfold fsetE; rw [if_pos (Or.inl (of_decide_eq_true HB.out.symm))])
    have HS : Hid (setS9 L c p = L) := Lib.hid (by unfold setS9; rw [HE.out, if_neg (by omega)])
    go_wp2
    go_ret
    exact ⟨by rw [HE.out]; rfl, by rw [HS.out]; exact HStill.out⟩
  | false =>
    have hnm : c ∉ abv L p := of_decide_eq_false HB.out.symm
    by_cases hcp : c = p
    · have HE : Hid (fsetE L c p = 8) := Lib.hid (by unfold fsetE; rw [if_pos (Or.inr hcp)])
      have HS : Hid (setS9 L c p = L) := Lib.hid (by unfold setS9; rw [HE.out, if_neg (by omega)])
      have hcb : (c == p) = true := by simpa using hcp
      clear hnm hcp
      go_wp2
      go_ret
      exact ⟨by rw [HE.out]; rfl, by rw [HS.out]; exact HStill.out⟩
    · have HE : Hid (fsetE L c p = 0) := Lib.hid (by unfold fsetE; rw [if_neg (fun q => q.elim hnm hcp)])
      have HS : Hid (setS9 L c p = freeF L c ++ [(c, p)]) := Lib.hid (by unfold setS9; rw [HE.out, if_pos rfl]; rfl)
      have hcb : (c == p) = false := by simpa using hcp
      clear hnm hcp HStill HHas
      go_wp2_with fail
      refine (HFr.out _ HB1.out).mono ?_
      rintro e w3 ⟨rfl, F3, ⟨v3, h3, hF3⟩, hf3, hn3⟩
      have HH := Lib.hid (And.intro h3 (And.intro hF3 (And.intro hf3 hn3)))
      have c3 : w3.cell? ⟨g, 1, none⟩ = some v3 := h3.blk.cell 1
      have f3 : w3.frozen? ⟨g, 1, none⟩ = false := h3.blk.frozen 1
      have hg3 := h3.blk.lt
      have hql : ((freeF L c).map mkPr).length ≤ 2000 := by
        rw [List.length_map]
        have := free_len L c
        omega
      obtain ⟨Qm, hQm⟩ : ∃ Qm, Qm = (freeF L c).map mkPr := ⟨_, rfl⟩
      have HCol : Hid (ColX w3 143 2 cPr v3 Qm) := Lib.hid (by rw [hQm]; exact h3.col)
      rw [← hQm] at hql
      have HQm := Lib.hid hQm
      obtain ⟨qa, qcap, hqv, _, _⟩ := ColX.form HCol.out
      clear h3 hF3 hf3 hn3 hQm
      subst hqv
      go_wp2_with (at_builtin; refine wpList_appC rfl (.tmp 26) (.tmp 30) 78 143 2 16 (.agg #[.int .i64 0, .int .i64 0]) cPr rfl Tryz.underlying78 pinfo rfl (by decide) (by decide) (fun _ => rfl) _ Qm rfl (col_keep HCol.out (alloc_below _ _)) hql (mkPr (c, p)) [.int .i64 c, .int .i64 p] rfl (pone c p) w3.heap.size (Blk.new _ _ _) rfl ?_)
      intro gu gcap w4 hc hgr hat
      have HG : Hid (ChF (RGB sp) w (w4.setCell ⟨g, 1, none⟩ (.slice (some ⟨gu, 0, none⟩) (Qm.length + 1) gcap)) g F (setS9 L c p)) := Lib.hid (by
        have hcol : ColP w4 (.slice (some ⟨gu, 0, none⟩) (Qm.length + 1) gcap) (setS9 L c p) := by
          show ColX w4 _ 2 cPr _ ((setS9 L c p).map mkPr)
          rw [HS.out, List.map_append, ← HQm.out]; exact hc
        obtain ⟨h3, hF3, hf3, hn3⟩ := HH.out
        refine ChF.join hf3 hn3 ?_
        have hal : Below w3.heap.size w3 (w3.alloc (.cells ([.int .i64 c, .int .i64 p] : List Value).toArray 143)) := alloc_below _ _
        have hst : ∀ b, b ≠ g → (w4.setCell ⟨g, 1, none⟩ (.slice (some ⟨gu, 0, none⟩) (Qm.length + 1) gcap)).heap[b]? = w4.heap[b]? := fun b q => Go.Deep.blk_setCell_other _ _ _ _ q
        have hgug : gu ≠ g := fun e => by
          rcases hat with q | q
          · exact h3.off (e ▸ q)
          · have := hal.size; omega
        have hb4 : Blk w4 g 82 #[sp, .slice qa Qm.length qcap] := (h3.keep hal).blk.same (hgr.block g (h3.keep hal).blk.lt (fun e => h3.off e.symm))
        refine ⟨footF g (.slice (some ⟨gu, 0, none⟩) (Qm.length + 1) gcap), ⟨_, ⟨hb4.set_ 1 _, ColX.same hcol (fun b e => hst b (fun q => ?_)), fun e => hgug (by simpa [Value.ownBlock] using e)⟩, fun _ => Iff.rfl⟩, ⟨hgr.os.trans hal.os, hgr.tape.trans hal.tape, hgr.output.trans hal.output, Nat.le_trans hal.size (by simpa [World.setCell] using hgr.size), fun b hl hn => ?_⟩, ?_⟩
        · have : gu = b := by simpa [Value.ownBlock] using e
          omega
        · rw [hst b (fun q => hn ((hF3 b).2 (Or.inl q))), hgr.block b (Nat.lt_of_lt_of_le hl hal.size) (fun e => hn ((hF3 b).2 (Or.inr e.symm))), hal.block b hl]
        · rintro b (e | e)
          · exact Or.inl ((hF3 b).2 (Or.inl e))
          · have e' : gu = b := by simpa [Value.ownBlock] using e
            subst e'
            rcases hat with q | q
            · exact Or.inl ((hF3 gu).2 (Or.inr q))
            · exact Or.inr (by omega))
      have k4 : Blk w4 g 82 #[sp, .slice qa Qm.length qcap] := by
        have hal : Below w3.heap.size w3 (w3.alloc (.cells ([.int .i64 c, .int .i64 p] : List Value).toArray 143)) := alloc_below _ _
        exact (HH.out.1.keep hal).blk.same (hgr.block g (HH.out.1.keep hal).blk.lt (fun e => HH.out.1.off e.symm))
      have c4 := k4.cell 1
      have f4 := k4.frozen 1
      have hg4 := k4.lt
      clear hc hgr hat k4 c3 f3
      generalize Qm.length + 1 = nn at HG ⊢
      go_wp2
      go_ret
      exact ⟨by rw [HE.out]; rfl, HG.out⟩
set_option maxHeartbeats 4000000 in
set_option maxRecDepth 100000 in
theorem schildren_any {w : World} {g : Nat} {v : Value} {L : FT} (h : RG sp w g v L) (hL : L.length ≤ 1000) (x : Int) :
    Calls Tryz.prog 106 #[.pointer (some ⟨g, 1, none⟩), .int .i64 x] w fun e w' => ∃ v, e = .returned v ∧ LRes w w' (chF L x) v ∧ Below w.heap.size w w' := by
  obtain ⟨a, cap, hv, hcap, hmax, hrd⟩ := h.reads
  have HRd := Lib.hid hrd
  obtain ⟨n, hn⟩ : ∃ n, n = L.length := ⟨_, rfl⟩
  rw [← hn] at hcap HRd hL
  have HN := Lib.hid hn
  unfold maxLen at hmax
  obtain ⟨i0, hi0, hz0, hz1, hz2⟩ := info_parts id_info
  have HI := Lib.hid (And.intro hi0 (And.intro hz0 (And.intro hz1 hz2)))
  clear h hv hrd hn hi0 hz0 hz1 hz2
  go_enter Tryz.func106, Tryz.ntmps106
  go_wp2
  go_loopw [5, 6] (fun v5 i wr => ∃ k : Nat, k ≤ n ∧ i = .int .i64 k ∧ OwnD wr w.heap.size v5 (chT (L.take k) x).length (chT (L.take k) x) ∧ Below w.heap.size w wr) (fun _ i _ => n - (ivl i).toNat)
  case atStart => exact ⟨0, by omega, rfl, OwnD.nil _ _, Below.refl _ _⟩
  case round =>
    obtain ⟨k, hk, rfl, hown, hb⟩ := hrel
    have HOwn := Lib.hid hown
    have HB := Lib.hid hb
    have hsz : w.heap.size ≤ wr.heap.size := hb.size
    obtain ⟨c0, hg, hrow⟩ := HRd.out wr hb
    have hcl : (chT (L.take k) x).length ≤ 1000 := by
      have := chT_len (L.take k) x
      rw [List.length_take] at this
      omega
    clear hown hb
    by_cases hlt : k < n
    · obtain ⟨m, hm⟩ : ∃ m, L[k]? = some m := ⟨_, List.getElem?_eq_getElem (by rw [← HN.out]; exact hlt)⟩
      obtain ⟨b, rfl, hbl, c1, c2⟩ := hrow k m hm
      obtain ⟨m1, m2⟩ := m
      simp only at c1 c2
      have HM := Lib.hid hm
      have j0 : (0 : Int) ≤ (k : Int) := by omega
      have j1 : (k : Int) < (n : Int) := by omega
      clear hm hrow
      by_cases he : m2 = x
      · have he' : (m2 == x) = true := by simpa using he
        have HK := Lib.hid (chT_yes HM.out he)
        simp only at HK
        clear he
        obtain ⟨Q, hQ⟩ : ∃ Q, Q = chT (L.take k) x := ⟨_, rfl⟩
        rw [← hQ] at HOwn HK hcl
        obtain ⟨m, hm⟩ : ∃ m, m = Q.length := ⟨_, rfl⟩
        rw [← hm] at HOwn hcl
        have HMm := Lib.hid hm
        clear hQ hm
        go_wp2_with (at_builtin; refine wpList_append_own _ rfl (.tmp 26) (.tmp 35) 53 rfl w.heap.size 31 i0 (.int .i64 0) 1 8 Tryz.underlying53 HI.out.1 HI.out.2.1 HI.out.2.2.1 HI.out.2.2.2 rfl (by decide) _ _ _ rfl (HOwn.out.alloc _) ⟨wr.heap.size, 0, none⟩ 1 1 [.int .i64 m1] rfl rfl (cell_one_new _ _ _) (by intro u hu; simp at hu; subst hu; rfl) (by unfold maxLen; omega) (by omega) (by simp; omega) ?_)
        intro v' w2 hown' hgrow _
        have HOwn' := Lib.hid hown'
        have HB2 := Lib.hid (grownD_below HOwn.out (Nat.le_refl _) HB.out hsz hgrow)
        clear hown' hgrow
        go_wp2
        go_roundw
        case rel =>
          refine ⟨k + 1, by omega, by go_num, ?_, HB2.out⟩
          rw [HK.out, List.length_append, ← HMm.out]
          unfold OwnD
          rw [List.map_append]
          exact HOwn'.out
        case measure => simp [ivl] <;> omega
      · have he' : (m2 == x) = false := by simpa using he
        have HK := Lib.hid (chT_no HM.out he)
        clear he
        go_wp2
        go_roundw
        case rel => exact ⟨k + 1, by omega, by go_num, by rw [HK.out]; exact HOwn.out, HB.out⟩
        case measure => simp [ivl] <;> omega
    · obtain rfl : k = n := by omega
      rw [List.take_of_length_le (by rw [← HN.out]; exact Nat.le_refl _)] at HOwn hcl
      obtain ⟨qa, qcap, hqv, hqr⟩ := HOwn.out.row
      have HS := Lib.hid (rsorted_any qa (chT L x).length qcap (chT L x) wr hqr (by omega))
      subst hqv
      clear hqr hrow
      have j1 : ¬ (k : Int) < (k : Int) := by omega
      go_wp2_with fail
      refine HS.out.mono ?_
      rintro e w2 ⟨v2, rfl, ⟨va, vcap, hv, vrow, vnew⟩, b2⟩
      have HR : Hid (LRes w w2 (chF L x) v2 ∧ Below w.heap.size w w2) := Lib.hid ⟨⟨va, vcap, hv, vrow, vnew.imp id (fun q ad e => Nat.le_trans hsz (q ad e))⟩, bthen HB.out b2⟩
      clear hv vrow vnew b2
      go_wp2
      go_ret
      exact ⟨v2, rfl, HR.out.1, HR.out.2⟩
theorem RGB.inb {w : World} {g : Nat} {F : Nat → Prop} {L : FT} (h : RGB sp w g F L) : ∀ b, F b → b < w.heap.size := by
  obtain ⟨v, h1, h2⟩ := h
  exact fun b hb => h1.inb b ((h2 b).1 hb)
set_option maxHeartbeats 4000000 in
set_option maxRecDepth 100000 in
theorem sdrop_any {w : World} {g : Nat} {F : Nat → Prop} {L : FT} (h0 : RGB sp w g F L) (hL : L.length ≤ 1000) (x : Int) :
    Calls Tryz.prog 67 #[.pointer (some ⟨g, 1, none⟩), .int .i64 x] w fun e w' => ∃ v, e = .returned v ∧ LRes w w' (chF L x) v ∧ ChF (RGB sp) w w' g F (dropF L x) := by
  have H0 := Lib.hid h0
  have hg := h0.inH
  have HCh : Hid (Calls Tryz.prog 106 #[.pointer (some ⟨g, 1, none⟩), .int .i64 x] w fun e w' => ∃ v, e = .returned v ∧ LRes w w' (chF L x) v ∧ Below w.heap.size w w') := Lib.hid (by
    obtain ⟨v, h, hF⟩ := h0
    exact schildren_any h hL x)
  have HFr : Hid (∀ u G M z, RGB sp u g G M → M.length ≤ 1000 → Calls Tryz.prog 74 #[.pointer (some ⟨g, 1, none⟩), .int .i64 z] u fun e w' => ∃ b, e = .returned (.bool b) ∧ ChF (RGB sp) u w' g G (freeF M z)) := Lib.hid (fun u G M z h hM => (sfree_any h hM z).mono fun _ _ q => ⟨_, q.1, q.2⟩)
  obtain ⟨C, hC⟩ : ∃ C, C = chF L x := ⟨_, rfl⟩
  have HD : Hid (dropF L x = freeS (freeF L x) C) := Lib.hid (by rw [hC]; rfl)
  have HLe : Hid (∀ k, (freeS (freeF L x) (C.take k)).length ≤ 1000) := Lib.hid (fun k => Nat.le_trans (frees_len _ _) (Nat.le_trans (free_len L x) hL))
  have HCl : Hid (C.length ≤ 1000) := Lib.hid (by rw [hC]; exact Nat.le_trans (chF_len L x) hL)
  rw [← hC] at HCh ⊢
  have HFin := Lib.hid h0.inb
  clear h0 hC
  go_enter Tryz.func67, Tryz.ntmps67
  go_wp2_with fail
  refine HCh.out.mono ?_
  rintro e w1 ⟨v, rfl, ⟨va, vcap, hv, vrow, vnew⟩, b1⟩
  subst hv
  have HVr := Lib.hid vrow
  have HVn := Lib.hid vnew
  have HB1 := Lib.hid b1
  have hbig := vrow.2.1
  have hg1 : g < w1.heap.size := Nat.lt_of_lt_of_le hg b1.size
  clear vrow vnew b1 HCh
  go_wp2_with fail
  refine (HFr.out _ _ _ x (H0.out.keep HB1.out) hL).mono ?_
  rintro e w2 ⟨b2, rfl, hc2⟩
  have HC2 := Lib.hid hc2
  clear hc2
  obtain ⟨n, hn⟩ : ∃ n, n = C.length := ⟨_, rfl⟩
  have hcl := HCl.out
  rw [← hn] at HVr HVn hcl hbig ⊢
  have HN := Lib.hid hn
  clear hn
  go_wp2
  go_loopw [6] (fun i wr => ∃ k : Nat, k ≤ n ∧ i = .int .i64 k ∧ ChF (RGB sp) w1 wr g F (freeS (freeF L x) (C.take k))) (fun i _ => n - (ivl i).toNat)
  case atStart => exact ⟨0, by omega, rfl, HC2.out⟩
  case round =>
    obtain ⟨k, hk, rfl, F1, hrb, hfr, hnew⟩ := hrel
    have HRB := Lib.hid hrb
    have HF1 := Lib.hid (And.intro hfr hnew)
    have hgw := hrb.inH
    have HRow : Hid (Row wr va n C) := Lib.hid (row_frame HVr.out (lres_aw HFin.out HVn.out) hfr)
    clear hrb hfr hnew
    by_cases hlt : k < n
    · obtain ⟨b, off, z, rfl, hz, cz⟩ := row_at HRow.out hlt
      have hbl := World.block_lt_of_cell? _ _ cz
      have HS := Lib.hid (frees_snoc (L := freeF L x) hz)
      have k0 : (0 : Int) ≤ (k : Int) := by omega
      have k1 : (k : Int) < (n : Int) := by omega
      clear hz
      go_wp2_with fail
      refine (HFr.out _ _ _ z HRB.out (HLe.out k)).mono ?_
      rintro e w3 ⟨b3, rfl, hc3⟩
      have HC3 : Hid (ChF (RGB sp) w1 w3 g F (freeS (freeF L x) (C.take (k + 1)))) := Lib.hid (by rw [HS.out]; exact ChF.join HF1.out.1 HF1.out.2 hc3)
      clear hc3
      go_wp2
      go_roundw
      case rel => exact ⟨k + 1, by omega, by go_num, HC3.out⟩
      case measure => simp [ivl] <;> omega
    · obtain rfl : k = n := by omega
      have e0 : C.take k = C := List.take_of_length_le (by rw [← HN.out]; exact Nat.le_refl _)
      have HE : Hid (ChF (RGB sp) w wr g F (dropF L x)) := Lib.hid (by
        rw [HD.out, ← e0]
        exact ChF.of ⟨F1, HRB.out, HF1.out.1, HF1.out.2⟩ HB1.out)
      clear e0
      go_wp2
      go_ret
      refine ⟨_, rfl, ⟨va, vcap, ?_, ?_, ?_⟩, HE.out⟩
      · rw [← HN.out]; rfl
      · rw [← HN.out]; exact HRow.out
      · rw [← HN.out]; exact HVn.out
end
def Rg (x : Int) : Prop := -9223372036854775808 ≤ x ∧ x ≤ 9223372036854775807
instance (x : Int) : Decidable (Rg x) := by unfold Rg; exact inferInstance
def Rgs (xs : List Int) : Prop := ∀ x ∈ xs, Rg x
instance (xs : List Int) : Decidable (Rgs xs) := by unfold Rgs; exact inferInstance
def LDr (F : Nat → Prop) (w w' : World) (xs : List Int) (v : Value) : Prop := ∃ a cap, v = .slice a xs.length cap ∧ Row w' a xs.length xs ∧ (xs.length = 0 ∨ ∀ ad, a = some ad → F ad.block ∨ w.heap.size ≤ ad.block)
section
variable {FB : World → Nat → (Nat → Prop) → FT → Prop}
structure Duo9 (FB : World → Nat → (Nat → Prop) → FT → Prop) (w0 w : World) (gp gr : Nat) (Fp Fq : Nat → Prop) (Lp Lq : FT) : Prop where
  p : FB w gp Fp Lp
  q : RFB w gr Fq Lq
  far : ∀ b, Fp b → ¬ Fq b
  low : Below w0.heap.size w0 w
  np : ∀ b, Fp b → w0.heap.size ≤ b
  nq : ∀ b, Fq b → w0.heap.size ≤ b
variable {w0 w w' : World} {gp gr : Nat} {Fp Fq : Nat → Prop} {Lp Lq Lp' Lq' : FT}
end
structure A9 where
  k : Int
  a : Option Addr
  n : Nat
  cap : Nat
  xs : List Int
theorem RB.inb {w : World} {g : Nat} {F : Nat → Prop} {S : St} (h : RB w g F S) : ∀ b, F b → b < w.heap.size := by
  obtain ⟨tv, cv, gv, h1, hF⟩ := h
  exact fun b hb => h1.inb b ((hF b).1 hb)
theorem RB.same {w w' : World} {g : Nat} {F : Nat → Prop} {S : St} (h : RB w g F S) (he : ∀ b, F b → w'.heap[b]? = w.heap[b]?) : RB w' g F S := by
  obtain ⟨tv, cv, gv, h1, hF⟩ := h
  exact ⟨tv, cv, gv, h1.same (fun b hb => he b ((hF b).2 hb)), hF⟩
theorem RB.at_ {w : World} {g : Nat} {F : Nat → Prop} {S : St} (h : RB w g F S) : F g := by
  obtain ⟨tv, cv, gv, h1, hF⟩ := h
  exact (hF g).2 (Or.inl rfl)
structure Duo (SB : World → Nat → (Nat → Prop) → St → Prop) (w0 w : World) (gp gr : Nat) (Fp Fq : Nat → Prop) (S1 S2 : St) : Prop where
  sp : SB w gp Fp S1
  rb : RB w gr Fq S2
  dis : ∀ b, Fp b → ¬ Fq b
  bel : Below w0.heap.size w0 w
  fp : ∀ b, Fp b → w0.heap.size ≤ b
  fq : ∀ b, Fq b → w0.heap.size ≤ b
section
variable {SB : World → Nat → (Nat → Prop) → St → Prop} {w0 w w' : World} {gp gr : Nat} {Fp Fq : Nat → Prop} {S1 S2 S' : St}
theorem aw_in {w0 : World} {a : Option Addr} {n : Nat} {zs : List Int} {F : Nat → Prop} (h : Row w0 a n zs) (hF : ∀ b, F b → w0.heap.size ≤ b) : Aw F a n := by
  rcases h.2.2 with c | ⟨b, off, e, hc⟩
  · exact Or.inl c
  · by_cases c : n = 0
    · exact Or.inl c
    · refine Or.inr (fun ad e2 hf => ?_)
      rw [e] at e2
      injection e2 with e2
      have h1 := World.block_lt_of_cell? w0 _ (hc 0 (by omega))
      have h2 := hF _ hf
      rw [← e2] at h2
      have h3 : b < w0.heap.size := h1
      have h4 : w0.heap.size ≤ b := h2
      omega
theorem aw_new2 {W : World} {F : Nat → Prop} {n : Nat} (hF : ∀ b, F b → b < W.heap.size) : Aw F (some ⟨W.heap.size, 0, none⟩) n := Or.inr (fun ad e hf => by
  injection e with e
  rw [← e] at hf
  have h2 : W.heap.size < W.heap.size := hF _ hf
  omega)
theorem rall8 {w : World} {g : Nat} {F : Nat → Prop} {S : St} (h0 : RB w g F S) (hW : WS S) : Calls Tryz.prog 33 #[.pointer (some ⟨g, 0, none⟩)] w fun e w' => ∃ a cap, e = .returned (.slice a (alS S).length cap) ∧ Row w' a (alS S).length (alS S) ∧ Below w.heap.size w w' := by
  obtain ⟨tv, cv, gv, h, hF⟩ := h0
  exact pall8 (E := stE tv S.now cv gv) (t := 96) (N := 580) (by omega) g S.room S.G S.L w hW.ok.gen h.row
theorem rnext8 {w : World} {g : Nat} {F : Nat → Prop} {S : St} (h0 : RB w g F S) : (w.cell? ⟨g, 577, none⟩ = some (.int .i64 S.now) ∧ w.frozen? ⟨g, 577, none⟩ = false ∧ g < w.heap.size) ∧ Chg RB w (w.setCell ⟨g, 577, none⟩ (.int .i64 (S.now + 1))) g F (neS S) := by
  obtain ⟨tv, cv, gv, h, hF⟩ := h0
  have hst : ∀ b, b ≠ g → (w.setCell ⟨g, 577, none⟩ (.int .i64 (S.now + 1))).heap[b]? = w.heap[b]? := fun b c => by
    simp only [World.setCell, Array.getElem?_modify]
    rw [if_neg (fun e => c e.symm)]
  have hg : w.grownBy (w.setCell ⟨g, 577, none⟩ (.int .i64 (S.now + 1))) (some g) := grown_set _ _ _ _
  refine ⟨⟨by rw [h.row.cell (by omega)]; rfl, h.row.frozen _, h.row.lt⟩, Chg.rs hF (h.move (S' := neS S) hg ((h.row.set 577 _).congr (fun j hj => ?_)) (fun i hi => ⟨h.colT hg hi, fun b _ => Or.inl rfl⟩) ⟨h.colC hg, fun b _ => Or.inl rfl⟩ rfl)⟩
  show (if j = 577 then _ else poolX (stE tv S.now cv gv) S.room S.G S.L j) = poolX (stE tv (S.now + 1) cv gv) S.room S.G S.L j
  unfold poolX stE
  by_cases c : j = 577
  · rw [if_pos c, if_neg (by omega), if_neg (by omega), if_pos c]
  · rw [if_neg c]
    by_cases d : j < 513
    · rw [if_pos d, if_pos d]
    · rw [if_neg d, if_neg d]
      by_cases e : j < 577
      · rw [if_pos e, if_pos e]
      · rw [if_neg e, if_neg e, if_neg c, if_neg c]
end
section
variable {SB : World → Nat → (Nat → Prop) → St → Prop}
end
section
variable {SB : World → Nat → (Nat → Prop) → St → Prop}
end
end Go.Proofs.YtkondkajpmafkaaGreat
