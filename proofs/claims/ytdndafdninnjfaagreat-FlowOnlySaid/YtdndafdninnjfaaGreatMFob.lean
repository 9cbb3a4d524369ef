/-
  2 texts in one file, each with its own heading.
-/
import Derived.Test.YtdndafdninnjfaaGreatMQForA
import Derived.Test.YtdndafdninnjfaaGreatMSto
import Derived.Test.YtdndafdninnjfaaGreatMTap
/-
  The reference's forest in memory: pairs; what its Parent, Above and Free of layer 9 answer.
-/
namespace Go.Proofs.YtdndafdninnjfaaGreat
open Go.RowKit

/-- a pair, as a row -/
def mkPr (m : Int × Int) : Int × PT := (m.1, m.2, zI, 0, zI, 0, 0, false, 0)
def cPr (x : Int × PT) : List Value := [.int .i64 x.1, .int .i64 x.2.1]
def ColP (w : World) (v : Value) (L : FT) : Prop := ColX w 137 2 cPr v (L.map mkPr)
structure RF (w : World) (g : Nat) (v : Value) (L : FT) : Prop where
  blk : Blk w g 135 #[v]
  col : ColP w v L
  off : v.ownBlock ≠ some g
def footF (g : Nat) (v : Value) (b : Nat) : Prop := b = g ∨ v.ownBlock = some b
def RFB (w : World) (g : Nat) (F : Nat → Prop) (L : FT) : Prop := ∃ v, RF w g v L ∧ ∀ b, F b ↔ footF g v b
/-- an answer behind which it is another one -/
def ChF (FB : World → Nat → (Nat → Prop) → FT → Prop) (w w' : World) (g : Nat) (F : Nat → Prop) (L : FT) : Prop := ∃ F', FB w' g F' L ∧ Fr w w' F ∧ ∀ b, F' b → F b ∨ w.heap.size ≤ b
section
variable {w w' : World} {g : Nat} {v : Value} {L : FT} {F : Nat → Prop}
theorem RF.inb (h : RF w g v L) : ∀ b, footF g v b → b < w.heap.size := by
  rintro b (rfl | e)
  · exact h.blk.lt
  · exact (World.ownsRow.lt h.col b e).2
theorem RF.same (h : RF w g v L) (he : ∀ b, footF g v b → w'.heap[b]? = w.heap[b]?) : RF w' g v L :=
  ⟨h.blk.same (he g (Or.inl rfl)), ColX.same h.col (fun b e => he b (Or.inr e)), h.off⟩
theorem RF.keep (h : RF w g v L) (hb : Below w.heap.size w w') : RF w' g v L := h.same (fun b hf => hb.block b (h.inb b hf))
theorem RFB.keep (h : RFB w g F L) (hb : Below w.heap.size w w') : RFB w' g F L := by
  obtain ⟨v, h1, h2⟩ := h
  exact ⟨v, h1.keep hb, h2⟩
/-- what the walk reads of it -/
theorem RF.reads (h : RF w g v L) : ∃ a cap, v = .slice a L.length cap ∧ L.length ≤ cap ∧ cap ≤ maxLen ∧ ∀ u, Below w.heap.size w u → u.cell? ⟨g, 0, none⟩ = some (.slice a L.length cap) ∧ g < u.heap.size ∧ ∀ j x, L[j]? = some x → ∃ b, a = some ⟨b, 0, none⟩ ∧ b < u.heap.size ∧ u.cell? ⟨b, j * 2, none⟩ = some (.int .i64 x.1) ∧ u.cell? ⟨b, j * 2 + 1, none⟩ = some (.int .i64 x.2) := by
  obtain ⟨a, cap, hv, hcap, hmax⟩ := ColX.form h.col
  rw [List.length_map] at hv hcap
  subst hv
  refine ⟨a, cap, rfl, hcap, hmax, fun u q => ?_⟩
  have h1 := h.keep q
  refine ⟨h1.blk.cell 0, h1.blk.lt, fun j x hx => ?_⟩
  have hj := (List.getElem?_eq_some_iff.1 hx).1
  obtain ⟨b, cap', cur, hvv, hbk, _⟩ := ColX.open_ h1.col (by rw [List.length_map]; omega)
  injection hvv with hvv _ _
  subst hvv
  have hr := ColX.range (c := cPr) (k := 2) (fun _ => rfl) h1.col (i := j) (x := mkPr x) (by rw [List.getElem?_map, hx]; rfl)
  exact ⟨b, rfl, hbk.lt, hr 0 _ rfl, hr 1 _ rfl⟩
end
theorem ChF.of {FB : World → Nat → (Nat → Prop) → FT → Prop} {w w1 w2 : World} {g : Nat} {F : Nat → Prop} {L : FT} (h : ChF FB w1 w2 g F L) (hb : Below w.heap.size w w1) : ChF FB w w2 g F L := by
  obtain ⟨F', h1, h2, h3⟩ := h
  exact ⟨F', h1, Fr.after hb h2, fun b hf => (h3 b hf).imp_right (fun c => Nat.le_trans hb.size c)⟩
theorem ChF.join {FB : World → Nat → (Nat → Prop) → FT → Prop} {w w1 w2 : World} {g : Nat} {F F' : Nat → Prop} {L : FT} (hfr : Fr w w1 F) (hn : ∀ b, F' b → F b ∨ w.heap.size ≤ b) (k : ChF FB w1 w2 g F' L) : ChF FB w w2 g F L := by
  obtain ⟨F'', k1, k2, k3⟩ := k
  refine ⟨F'', k1, ⟨k2.1.trans hfr.1, k2.2.1.trans hfr.2.1, k2.2.2.1.trans hfr.2.2.1, Nat.le_trans hfr.2.2.2.1 k2.2.2.2.1, fun b hb hnn => ?_⟩, fun b hb => ?_⟩
  · refine (k2.2.2.2.2 b (Nat.lt_of_lt_of_le hb hfr.2.2.2.1) (fun c => ?_)).trans (hfr.2.2.2.2 b hb hnn)
    rcases hn b c with d | d
    · exact hnn d
    · omega
  · rcases k3 b hb with d | d
    · exact hn b d
    · exact Or.inr (Nat.le_trans hfr.2.2.2.1 d)
theorem par_take_no {L : FT} {j : Nat} {x : Int} {q : Int × Int} (h : parO (L.take j) x = none) (hq : L[j]? = some q) (hne : q.1 ≠ x) : parO (L.take (j + 1)) x = none := by
  unfold parO at h ⊢
  rw [List.take_add_one, hq, List.find?_append]
  cases c : (L.take j).find? (fun p => p.1 == x) with
  | none => simp [hne]
  | some z => rw [c] at h; cases h
theorem par_take_yes {L : FT} {j : Nat} {x : Int} {q : Int × Int} (h : parO (L.take j) x = none) (hq : L[j]? = some q) (he : q.1 = x) : parO L x = some q.2 := by
  have e : L = L.take j ++ q :: L.drop (j + 1) := by
    obtain ⟨hj, e⟩ := List.getElem?_eq_some_iff.1 hq
    rw [← e, ← List.drop_eq_getElem_cons hj, List.take_append_drop]
  unfold parO at h ⊢
  rw [e, List.find?_append]
  cases c : (L.take j).find? (fun p => p.1 == x) with
  | none => simp [he]
  | some z => rw [c] at h; cases h
def parV (o : Option Int) : Int := match o with | some y => y | none => 0
set_option maxHeartbeats 2000000 in
set_option maxRecDepth 100000 in
theorem rparent_any {w : World} {g : Nat} {v : Value} {L : FT} (h : RF w g v L) (x : Int) :
    Calls Tryz.prog 75 #[.pointer (some ⟨g, 0, none⟩), .int .i64 x] w fun e w' => e = .returned (.tuple #[.int .i64 (parV (parO L x)), .bool (parO L x).isSome]) ∧ w = w' := by
  obtain ⟨a, cap, hv, hcap, hmax, hrd⟩ := h.reads
  obtain ⟨c0, hg, hrow⟩ := hrd w (Below.refl _ _)
  have HRow := Lib.hid hrow
  obtain ⟨n, hn⟩ : ∃ n, n = L.length := ⟨_, rfl⟩
  rw [← hn] at c0 hcap
  have HN := Lib.hid hn
  unfold maxLen at hmax
  clear h hv hrd hrow hn
  go_enter Tryz.func75, Tryz.ntmps75
  go_wp2
  go_loopw [6] (fun i wr => ∃ k : Nat, k ≤ n ∧ i = .int .i64 k ∧ parO (L.take k) x = none ∧ wr = w) (fun i _ => n - (ivl i).toNat)
  case atStart => exact ⟨0, by omega, rfl, rfl, rfl⟩
  case round =>
    obtain ⟨k, hk, rfl, hz, rfl⟩ := hrel
    have HZ := Lib.hid hz
    clear hz
    by_cases hlt : k < n
    · obtain ⟨q, hq⟩ : ∃ q, L[k]? = some q := ⟨_, List.getElem?_eq_getElem (by rw [← HN.out]; exact hlt)⟩
      obtain ⟨b, rfl, hbl, c1, c2⟩ := HRow.out k q hq
      have HQ := Lib.hid hq
      obtain ⟨q1, q2⟩ := q
      simp only at c1 c2
      have k0 : (0 : Int) ≤ (k : Int) := by omega
      have k1 : (k : Int) < (n : Int) := by omega
      clear hq
      by_cases he : q1 = x
      · have he' : (q1 == x) = true := by simpa using he
        have HP := Lib.hid (par_take_yes HZ.out HQ.out he)
        clear he
        go_wp2
        go_ret2
        exact ⟨by rw [HP.out]; rfl, rfl⟩
      · have he' : (q1 == x) = false := by simpa using he
        have HP := Lib.hid (par_take_no HZ.out HQ.out he)
        clear he
        go_wp2
        go_roundw
        case rel => exact ⟨k + 1, by omega, by go_num, HP.out, by trivial⟩
        case measure => simp [ivl] <;> omega
    · obtain rfl : k = n := by omega
      have HP : Hid (parO L x = none) := Lib.hid (by have := HZ.out; rwa [List.take_of_length_le (by rw [HN.out]; exact Nat.le_refl _)] at this)
      have j1 : ¬ (k : Int) < (k : Int) := by omega
      go_wp2
      go_ret2
      exact ⟨by rw [HP.out]; rfl, rfl⟩

def abM (L : FT) (v : Value) : Nat := (abv L (ivl v)).length + 1
set_option maxHeartbeats 2000000 in
set_option maxRecDepth 100000 in
theorem rabove_any {w : World} {g : Nat} {v : Value} {L : FT} (h : RF w g v L) (hW : WF L) (hL : L.length ≤ 1000) (x : Int) :
    Calls Tryz.prog 55 #[.pointer (some ⟨g, 0, none⟩), .int .i64 x] w fun e w' => ∃ v, e = .returned v ∧ LRes w w' (abv L x) v ∧ Below w.heap.size w w' := by
  have HP : Hid (∀ u z, Below w.heap.size w u → Calls Tryz.prog 75 #[.pointer (some ⟨g, 0, none⟩), .int .i64 z] u fun e w' => e = .returned (.tuple #[.int .i64 (parV (parO L z)), .bool (parO L z).isSome]) ∧ u = w') := Lib.hid (fun u z q => rparent_any (h.keep q) z)
  have hg := h.blk.lt
  have HW := Lib.hid hW
  have HAl := Lib.hid (abv_len hW x)
  obtain ⟨i0, hi0, hz0, hz1, hz2⟩ := info_parts id_info
  have HI := Lib.hid (And.intro hi0 (And.intro hz0 (And.intro hz1 hz2)))
  clear h hi0 hz0 hz1 hz2 hW
  go_enter Tryz.func55, Tryz.ntmps55
  go_wp2_with fail
  refine (HP.out _ _ (Below.refl _ _)).mono ?_
  rintro e w1 ⟨rfl, rfl⟩
  go_wp2
  go_loopw [5, 6, 7] (fun v5 v6 v7 wr => ∃ (pre : List Int) (z : Int), v6 = .int .i64 (parV (parO L z)) ∧ v7 = .bool (parO L z).isSome ∧ abv L x = pre ++ abv L z ∧ OwnD wr w.heap.size v5 pre.length pre ∧ Below w.heap.size w wr) (fun _ v6 v7 _ => match v7 with | .bool true => abM L v6 | _ => 0)
  case atStart => exact ⟨[], x, rfl, rfl, rfl, OwnD.nil _ _, Below.refl _ _⟩
  case round =>
    obtain ⟨pre, z, rfl, rfl, hab, hown, hb⟩ := hrel
    have HAb := Lib.hid hab
    have HOwn := Lib.hid hown
    have HB := Lib.hid hb
    have hsz : w.heap.size ≤ wr.heap.size := hb.size
    have hgw : g < wr.heap.size := Nat.lt_of_lt_of_le hg hsz
    have hpl : pre.length ≤ 1000 := by have h1 := HAl.out; rw [hab, List.length_append] at h1; omega
    clear hab hown hb
    cases hpz : parO L z with
    | none =>
      have HR : Hid (abv L x = pre) := Lib.hid (by rw [HAb.out, abv_none HW.out hpz, List.append_nil])
      obtain ⟨qa, qcap, hqv, hqr⟩ := HOwn.out.row
      have HLr := Lib.hid (LRes.of9 (w := w) HOwn.out (Nat.le_refl _))
      subst hqv
      clear hqr hpz
      go_wp2
      go_ret
      exact ⟨_, rfl, by rw [HR.out]; exact HLr.out, HB.out⟩
    | some y =>
      have HE := Lib.hid (abv_some HW.out hpz)
      have HX : Hid (abv L x = (pre ++ [y]) ++ abv L y) := Lib.hid (by rw [HAb.out, HE.out, List.append_assoc]; rfl)
      obtain ⟨n, hn⟩ : ∃ n, n = pre.length := ⟨_, rfl⟩
      rw [← hn] at HOwn hpl
      have HN := Lib.hid hn
      clear hpz hn
      have e1 : parV (some y) = y := rfl
      rw [e1]
      go_wp2_with (at_builtin; refine wpList_append_own _ rfl (.tmp 15) (.tmp 17) 24 rfl w.heap.size 41 i0 (.int .i64 0) 1 8 Tryz.underlying24 HI.out.1 HI.out.2.1 HI.out.2.2.1 HI.out.2.2.2 rfl (by decide) _ _ _ rfl (HOwn.out.alloc _) ⟨wr.heap.size, 0, none⟩ 1 1 [.int .i64 y] rfl rfl (cell_one_new _ _ _) (by intro u hu; simp at hu; subst hu; rfl) (by unfold maxLen; omega) (by omega) (by simp; omega) ?_)
      intro v' w2 hown' hgrow _
      have HOwn' := Lib.hid hown'
      have HB2 := Lib.hid (grownD_below HOwn.out (Nat.le_refl _) HB.out hsz hgrow)
      clear hown' hgrow
      go_wp2_with fail
      refine (HP.out _ y HB2.out).mono ?_
      rintro e w3 ⟨rfl, rfl⟩
      go_wp2
      go_roundw
      case rel =>
        refine ⟨pre ++ [y], y, rfl, rfl, HX.out, ?_, HB2.out⟩
        rw [List.length_append, ← HN.out]
        unfold OwnD
        rw [List.map_append]
        exact HOwn'.out
      case measure =>
        show _ < abM L (.int .i64 y)
        have hlt : ∀ o, parO L y = o → (match (Value.bool o.isSome) with | .bool true => abM L (.int .i64 (parV o)) | _ => 0) < abM L (.int .i64 y) := fun o ho => by
          cases o with
          | none => show 0 < _; unfold abM; omega
          | some y2 =>
            show abM L (.int .i64 y2) < _
            unfold abM
            show (abv L y2).length + 1 < (abv L y).length + 1
            rw [abv_some HW.out ho, List.length_cons]
            omega
        exact hlt _ rfl

end Go.Proofs.YtdndafdninnjfaaGreat
/-
  The reference's forest: what its Free, Set, Children and Drop of layer 9 answer.
-/
namespace Go.Proofs.YtdndafdninnjfaaGreat
open Go.RowKit

theorem pinfo : (Tryz.prog.info? 137).map (fun i => (i.zero, i.size, i.bytes)) = some (some (.agg #[.int .i64 0, .int .i64 0]), 2, 16) := by kernel_rfl
theorem pone (x y : Int) : ∀ u ∈ ([.int .i64 x, .int .i64 y] : List Value), u.oneCell' = true := fun u hu => by
  simp only [List.mem_cons, List.not_mem_nil, or_false] at hu
  rcases hu with rfl | rfl <;> rfl
/-- the list is another one, and is stored -/
theorem RF.stored {w wb : World} {g : Nat} {v u : Value} {L L' : FT} {F : Nat → Prop} (h : RF w g v L) (hF : ∀ b, F b ↔ footF g v b) (hb : Below w.heap.size w wb) (hc : ColP wb u L') (hu : ∀ b, u.ownBlock = some b → w.heap.size ≤ b) : ChF RFB w (wb.setCell ⟨g, 0, none⟩ u) g F L' := by
  have hgl := h.blk.lt
  have hst : ∀ b, b ≠ g → (wb.setCell ⟨g, 0, none⟩ u).heap[b]? = wb.heap[b]? := fun b c => Go.Deep.blk_setCell_other _ _ _ _ c
  have hug : u.ownBlock ≠ some g := fun e => by have := hu g e; omega
  refine ⟨footF g u, ⟨u, ⟨(h.keep hb).blk.set_ 0 u, ColX.same hc (fun b e => hst b (fun c => hug (c ▸ e))), hug⟩, fun _ => Iff.rfl⟩, ⟨hb.os, hb.tape, hb.output, Nat.le_trans hb.size (by simp [World.setCell]), fun b hl hn => ?_⟩, ?_⟩
  · rw [hst b (fun c => hn ((hF b).2 (Or.inl c)))]
    exact hb.block b hl
  · rintro b (e | e)
    · exact Or.inl ((hF b).2 (Or.inl e))
    · exact Or.inr (hu b e)
/-! Children -/
def chT (L : FT) (x : Int) : List Int := (L.filter (fun p => p.2 == x)).map Prod.fst
theorem chT_yes {L : FT} {k : Nat} {m : Int × Int} {x : Int} (h : L[k]? = some m) (he : m.2 = x) : chT (L.take (k + 1)) x = chT (L.take k) x ++ [m.1] := by
  unfold chT
  rw [List.take_add_one, List.filter_append, h]
  simp [he]
theorem chT_no {L : FT} {k : Nat} {m : Int × Int} {x : Int} (h : L[k]? = some m) (he : m.2 ≠ x) : chT (L.take (k + 1)) x = chT (L.take k) x := by
  unfold chT
  rw [List.take_add_one, List.filter_append, h]
  simp [he]
theorem chT_len (L : FT) (x : Int) : (chT L x).length ≤ L.length := by
  unfold chT
  rw [List.length_map]
  exact List.length_filter_le _ _
set_option maxHeartbeats 4000000 in
set_option maxRecDepth 100000 in
theorem rchildren_any {w : World} {g : Nat} {v : Value} {L : FT} (h : RF w g v L) (hL : L.length ≤ 1000) (x : Int) :
    Calls Tryz.prog 94 #[.pointer (some ⟨g, 0, none⟩), .int .i64 x] w fun e w' => ∃ v, e = .returned v ∧ LRes w w' (chF L x) v ∧ Below w.heap.size w w' := by
  obtain ⟨a, cap, hv, hcap, hmax, hrd⟩ := h.reads
  have HRd := Lib.hid hrd
  obtain ⟨n, hn⟩ : ∃ n, n = L.length := ⟨_, rfl⟩
  rw [← hn] at hcap HRd hL
  have HN := Lib.hid hn
  unfold maxLen at hmax
  obtain ⟨i0, hi0, hz0, hz1, hz2⟩ := info_parts id_info
  have HI := Lib.hid (And.intro hi0 (And.intro hz0 (And.intro hz1 hz2)))
  clear h hv hrd hn hi0 hz0 hz1 hz2
  go_enter Tryz.func94, Tryz.ntmps94
  go_wp2
  go_loopw [5, 6] (fun v5 i wr => ∃ k : Nat, k ≤ n ∧ i = .int .i64 k ∧ OwnD wr w.heap.size v5 (chT (L.take k) x).length (chT (L.take k) x) ∧ Below w.heap.size w wr) (fun _ i _ => n - (ivl i).toNat)
  case atStart => exact ⟨0, by omega, rfl, OwnD.nil _ _, Below.refl _ _⟩
  case round =>
    obtain ⟨k, hk, rfl, hown, hb⟩ := hrel
    have HOwn := Lib.hid hown
    have HB := Lib.hid hb
    have hsz : w.heap.size ≤ wr.heap.size := hb.size
    obtain ⟨c0, hg, hrow⟩ := HRd.out wr hb
    have hcl : (chT (L.take k) x).length ≤ 1000 := by
      have := chT_len (L.take k) x
      rw [List.length_take] at this
      omega
    clear hown hb
    by_cases hlt : k < n
    · obtain ⟨m, hm⟩ : ∃ m, L[k]? = some m := ⟨_, List.getElem?_eq_getElem (by rw [← HN.out]; exact hlt)⟩
      obtain ⟨b, rfl, hbl, c1, c2⟩ := hrow k m hm
      obtain ⟨m1, m2⟩ := m
      simp only at c1 c2
      have HM := Lib.hid hm
      have j0 : (0 : Int) ≤ (k : Int) := by omega
      have j1 : (k : Int) < (n : Int) := by omega
      clear hm hrow
      by_cases he : m2 = x
      · have he' : (m2 == x) = true := by simpa using he
        have HK := Lib.hid (chT_yes HM.out he)
        simp only at HK
        clear he
        obtain ⟨Q, hQ⟩ : ∃ Q, Q = chT (L.take k) x := ⟨_, rfl⟩
        rw [← hQ] at HOwn HK hcl
        obtain ⟨m, hm⟩ : ∃ m, m = Q.length := ⟨_, rfl⟩
        rw [← hm] at HOwn hcl
        have HMm := Lib.hid hm
        clear hQ hm
        go_wp2_with (at_builtin; refine wpList_append_own _ rfl (.tmp 26) (.tmp 35) 24 rfl w.heap.size 41 i0 (.int .i64 0) 1 8 Tryz.underlying24 HI.out.1 HI.out.2.1 HI.out.2.2.1 HI.out.2.2.2 rfl (by decide) _ _ _ rfl (HOwn.out.alloc _) ⟨wr.heap.size, 0, none⟩ 1 1 [.int .i64 m1] rfl rfl (cell_one_new _ _ _) (by intro u hu; simp at hu; subst hu; rfl) (by unfold maxLen; omega) (by omega) (by simp; omega) ?_)
        intro v' w2 hown' hgrow _
        have HOwn' := Lib.hid hown'
        have HB2 := Lib.hid (grownD_below HOwn.out (Nat.le_refl _) HB.out hsz hgrow)
        clear hown' hgrow
        go_wp2
        go_roundw
        case rel =>
          refine ⟨k + 1, by omega, by go_num, ?_, HB2.out⟩
          rw [HK.out, List.length_append, ← HMm.out]
          unfold OwnD
          rw [List.map_append]
          exact HOwn'.out
        case measure => simp [ivl] <;> omega
      · have he' : (m2 == x) = false := by simpa using he
        have HK := Lib.hid (chT_no HM.out he)
        clear he
        go_wp2
        go_roundw
        case rel => exact ⟨k + 1, by omega, by go_num, by rw [HK.out]; exact HOwn.out, HB.out⟩
        case measure => simp [ivl] <;> omega
    · obtain rfl : k = n := by omega
      rw [List.take_of_length_le (by rw [← HN.out]; exact Nat.le_refl _)] at HOwn hcl
      obtain ⟨qa, qcap, hqv, hqr⟩ := HOwn.out.row
      have HS := Lib.hid (rsorted_any qa (chT L x).length qcap (chT L x) wr hqr (by omega))
      subst hqv
      clear hqr hrow
      have j1 : ¬ (k : Int) < (k : Int) := by omega
      go_wp2_with fail
      refine HS.out.mono ?_
      rintro e w2 ⟨v2, rfl, ⟨va, vcap, hv, vrow, vnew⟩, b2⟩
      have HR : Hid (LRes w w2 (chF L x) v2 ∧ Below w.heap.size w w2) := Lib.hid ⟨⟨va, vcap, hv, vrow, vnew.imp id (fun q ad e => Nat.le_trans hsz (q ad e))⟩, bthen HB.out b2⟩
      clear hv vrow vnew b2
      go_wp2
      go_ret
      exact ⟨v2, rfl, HR.out.1, HR.out.2⟩

end Go.Proofs.YtdndafdninnjfaaGreat
