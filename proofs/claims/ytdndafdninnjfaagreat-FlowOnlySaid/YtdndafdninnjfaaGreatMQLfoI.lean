/-
  The landed forest: tops: those of some names above which none of them is, rising.
-/
import Derived.Test.YtdndafdninnjfaaGreatMQLfoH
import Derived.Test.YtdndafdninnjfaaGreatMFoi
namespace Go.Proofs.YtdndafdninnjfaaGreat
open Go.RowKit

def cmpS (l : List Int) : List Int := Lib.compact (sortI l)
theorem cmp_eq (ns : List Int) : Lib.compact ns = ((List.range ns.length).filter (fun i => decide (i = 0) || decide (ns.getD i 0 ≠ ns.getD (i - 1) 0))).map (fun i => ns.getD i 0) := by
  unfold Lib.compact Lib.compactUpTo
  have hg : ∀ i, i < ns.length → ns.toArray[i]! = ns.getD i 0 := fun i hi => by
    rw [getElem!_pos ns.toArray i (by simpa using hi)]
    simp [List.getD, hi]
  have h1 : (List.range ns.length).filter (Lib.keeps ns.toArray) = (List.range ns.length).filter (fun i => decide (i = 0) || decide (ns.getD i 0 ≠ ns.getD (i - 1) 0)) := by
    refine List.filter_congr (fun i hi => ?_)
    rw [List.mem_range] at hi
    by_cases q : i = 0
    · rw [Lib.keeps_lt_one _ i (by omega), decide_eq_true q]
      rfl
    · have e1 := hg i hi
      have e2 := hg (i - 1) (by omega)
      by_cases k : ns.getD i 0 = ns.getD (i - 1) 0
      · rw [Lib.keeps_neg (by omega) (by rw [e1, e2]; exact k), decide_eq_false q, decide_eq_false (fun c => c k)]
        rfl
      · rw [Lib.keeps_pos (by rw [e1, e2]; exact k), decide_eq_true k, Bool.or_true]
  rw [h1]
  refine List.map_congr_left (fun i hi => ?_)
  exact hg i (List.mem_range.1 (List.mem_filter.1 hi).1)
theorem mem_cmp {ns : List Int} {z : Int} : z ∈ Lib.compact ns ↔ z ∈ ns := by
  rw [cmp_eq, List.mem_map]
  constructor
  · rintro ⟨i, hi, rfl⟩
    exact getD_mem (List.mem_range.1 (List.mem_filter.1 hi).1)
  · intro hz
    obtain ⟨i, hi, e⟩ := List.mem_iff_getElem.1 hz
    obtain ⟨j, hj, ej, hj0⟩ := first_of (ns := ns) i hi
    refine ⟨j, List.mem_filter.2 ⟨List.mem_range.2 hj, ?_⟩, ?_⟩
    · rw [Bool.or_eq_true, decide_eq_true_eq, decide_eq_true_eq]
      exact hj0
    · rw [ej, List.getD, List.getElem?_eq_getElem hi]
      exact e
theorem cmp_up {ns : List Int} (h : ns.Pairwise (· ≤ ·)) : (Lib.compact ns).Pairwise (· ≤ ·) := by
  rw [cmp_eq]
  refine List.pairwise_map.2 ((List.Pairwise.filter _ List.pairwise_lt_range).imp_of_mem (fun {a b} ha hb c => ?_))
  exact up_getD h (by omega) (List.mem_range.1 (List.mem_filter.1 hb).1)
theorem sortI_up (l : List Int) : (sortI l).Pairwise (· ≤ ·) := sort_sorted l [] List.Pairwise.nil
def topL (L : FT) (l : List Int) : List Int := (cmpS l).filter (fun x => !hasA L (cmpS l) x)
theorem hasA_mem {L : FT} {ns ms : List Int} (h : ∀ z, z ∈ ns ↔ z ∈ ms) (x : Int) : hasA L ns x = hasA L ms x := by
  unfold hasA
  congr 1
  funext a
  rw [decide_eq_decide]
  exact h a
theorem und_tops (L : FT) (l : List Int) : undL L l = (topL L l).flatMap (beh L) := by
  unfold undL undN topL cmpS
  rw [flat_if]
  have h1 : ∀ x, hasA L (Lib.compact (sortI l)) x = hasA L (sortI l) x := fun x => hasA_mem (fun z => mem_cmp) x
  rw [cmp_eq, List.filter_map, List.filter_filter, List.flatMap_map]
  congr 1
  refine List.filter_congr (fun i _ => ?_)
  rw [← cmp_eq]
  show _ = ((fun x => !hasA L (Lib.compact (sortI l)) x) ((sortI l).getD i 0) && _)
  simp only [h1]
  unfold topB hasA
  rw [Bool.and_comm, List.not_any_eq_all_not]
theorem cmpS_len (l : List Int) : (cmpS l).length ≤ l.length := by
  have h1 := Lib.compact_length_le (sortI l)
  have h2 := (sortI_perm l).length_eq
  unfold cmpS
  omega
theorem mem_cmpS {l : List Int} {z : Int} : z ∈ cmpS l ↔ z ∈ l := by
  unfold cmpS
  rw [mem_cmp, (sortI_perm l).mem_iff]
section
variable {w : World} {g gp gc : Nat} {L : FT} {bl cp : Int → Nat}
set_option maxHeartbeats 4000000 in
set_option maxRecDepth 100000 in
theorem ltops_any (h : LF w g L gp gc bl cp) (hW : WF L) {a : Option Addr} {n cap : Nat} {xs : List Int} (hn : n ≤ 1000) (hr : Row w a n xs) (hx : Rgs xs) :
    Calls Tryz.prog 43 #[.pointer (some ⟨g, 0, none⟩), .slice a n cap] w fun e w' => ∃ v, e = .returned v ∧ OwnD w' w.heap.size v (topL L xs).length (topL L xs) ∧ Below w.heap.size w w' := by
  have HCl := Lib.hid (clone9_any (cap := cap) hr (by omega))
  have hcl := cmpS_len xs
  rw [hr.1] at hcl
  have HHas : Hid (∀ u z a2 c2, Below w.heap.size w u → z ∈ cmpS xs → Row u a2 (cmpS xs).length (cmpS xs) → Calls Tryz.prog 66 #[.pointer (some ⟨g, 0, none⟩), .int .i64 z, .slice a2 (cmpS xs).length c2] u fun e w' => e = .returned (.bool (hasA L (cmpS xs) z)) ∧ Below u.heap.size u w') := Lib.hid (fun u z a2 c2 q hz hr2 => lhas_any (h.keep q) hW (hx z (mem_cmpS.1 hz)) hr2 (by omega) (cmp_up (sortI_up xs)))
  obtain ⟨i0, hi0, hz0, hz1, hz2⟩ := info_parts id_info
  have HI := Lib.hid (And.intro hi0 (And.intro hz0 (And.intro hz1 hz2)))
  have HS : Hid (Lib.compact (xs.mergeSort (fun x y => decide (x ≤ y))) = cmpS xs) := Lib.hid (by unfold cmpS; rw [srt_eq (List.Perm.refl xs)])
  obtain ⟨C, hC⟩ : ∃ C, C = cmpS xs := ⟨_, rfl⟩
  obtain ⟨T, hT⟩ : ∃ T, T = topL L xs := ⟨_, rfl⟩
  have HT : Hid (T = C.filter (fun x => !hasA L C x)) := Lib.hid (by rw [hT, hC]; rfl)
  rw [← hC] at HHas HS hcl
  rw [← hT]
  clear h hW hr hx hi0 hz0 hz1 hz2 hC hT
  go_enter Tryz.func43, Tryz.ntmps43
  go_wp2_with fail
  refine HCl.out.mono ?_
  rintro e w1 ⟨v1, rfl, o1, b1⟩
  have HSo := Lib.hid (sort9_any o1 (by omega))
  have HO1 := Lib.hid o1
  have HB1 := Lib.hid b1
  clear o1 b1 HCl
  go_wp2_with fail
  refine HSo.out.mono ?_
  rintro e w2 ⟨rfl, o2, g2⟩
  have HCo := Lib.hid (comp9_any o2)
  rw [HS.out] at HCo
  have HO2 := Lib.hid o2
  have HB2 := Lib.hid (own_below9 HO1.out (Nat.le_refl _) HB1.out g2)
  clear o2 g2 HSo HO1 HB1
  go_wp2_with fail
  refine HCo.out.mono ?_
  rintro e w3 ⟨v3, rfl, o3, g3, -⟩
  have HB3 := Lib.hid (own_below9 HO2.out (Nat.le_refl _) HB2.out g3)
  obtain ⟨a3, c3, rfl, r3⟩ := o3.row
  have HR3 := Lib.hid r3
  have hsz := HB3.out.size
  obtain ⟨m, hm⟩ : ∃ m, m = C.length := ⟨_, rfl⟩
  rw [← hm] at HR3 HHas hcl ⊢
  have HM := Lib.hid hm
  have hmb := HR3.out.2.1
  clear o3 g3 r3 HO2 HB2 HCo HS hm
  go_wp2
  go_loopw [6, 8, 17] (fun v6 _ i wr => ∃ j : Nat, j ≤ m ∧ i = .int .i64 j ∧ OwnD wr w3.heap.size v6 ((C.take j).filter (fun x => !hasA L C x)).length ((C.take j).filter (fun x => !hasA L C x)) ∧ Below w3.heap.size w3 wr) (fun _ _ i _ => m - (ivl i).toNat)
  case atStart => exact ⟨0, by omega, rfl, OwnD.nil _ _, Below.refl _ _⟩
  case round =>
    obtain ⟨j, hj, rfl, ho, hb⟩ := hrel
    have HOwn := Lib.hid ho
    have HB := Lib.hid hb
    have HR := Lib.hid (row_keep HR3.out hb)
    have hsw : w3.heap.size ≤ wr.heap.size := hb.size
    clear ho hb
    by_cases hlt : j < m
    · obtain ⟨b, off, z, rfl, hz, cz⟩ := row_at HR.out hlt
      have hbl := World.block_lt_of_cell? _ _ cz
      have HH := Lib.hid (HHas.out wr z (some ⟨b, off, none⟩) c3 (bthen HB3.out HB.out) (List.mem_of_getElem? hz) HR.out)
      have j0 : (0 : Int) ≤ (j : Int) := by omega
      have j1 : (j : Int) < (m : Int) := by omega
      obtain ⟨hb, hhb⟩ : ∃ hb, hb = hasA L C z := ⟨_, rfl⟩
      have HSt : Hid ((C.take (j + 1)).filter (fun x => !hasA L C x) = (C.take j).filter (fun x => !hasA L C x) ++ (if hb then [] else [z])) := Lib.hid (by
        rw [List.take_add_one, hz, List.filter_append, hhb]
        cases q : hasA L C z <;> simp [q])
      have hpl : ((C.take j).filter (fun x => !hasA L C x)).length ≤ 1000 := by
        have q1 := List.length_filter_le (fun x => !hasA L C x) (C.take j)
        rw [List.length_take] at q1
        omega
      rw [← hhb] at HH
      clear hz hhb
      go_wp2_with fail
      refine HH.out.mono ?_
      rintro e w5 ⟨rfl, b5⟩
      replace HOwn := Lib.hid (HOwn.out.keep b5)
      replace HB := Lib.hid (bthen (w := w3) HB.out b5)
      have hsw5 : w3.heap.size ≤ w5.heap.size := HB.out.size
      clear b5 HH HR cz hbl
      cases hb with
      | true =>
        go_wp2
        go_roundw
        case rel => exact ⟨j + 1, by omega, by go_num, by rw [HSt.out]; simpa using HOwn.out, HB.out⟩
        case measure => simp [ivl] <;> omega
      | false =>
        obtain ⟨pre, hpre⟩ : ∃ pre, pre = (C.take j).filter (fun x => !hasA L C x) := ⟨_, rfl⟩
        rw [← hpre] at HOwn HSt hpl
        obtain ⟨k, hk⟩ : ∃ k, k = pre.length := ⟨_, rfl⟩
        rw [← hk] at HOwn hpl
        have HK := Lib.hid hk
        clear hpre hk
        go_wp2_with (at_builtin; refine wpList_append_own _ rfl (.tmp 26) (.tmp 28) 24 rfl w3.heap.size 41 i0 (.int .i64 0) 1 8 Tryz.underlying24 HI.out.1 HI.out.2.1 HI.out.2.2.1 HI.out.2.2.2 rfl (by decide) _ _ _ rfl (HOwn.out.alloc _) ⟨w5.heap.size, 0, none⟩ 1 1 [.int .i64 z] rfl rfl (cell_one_new _ _ _) (by intro u hu; simp at hu; subst hu; rfl) (by unfold maxLen; omega) (by omega) (by simp; omega) ?_)
        intro v' w6 hown' hgrow _
        have HOwn' := Lib.hid hown'
        have HB6 := Lib.hid (grownD_below HOwn.out (Nat.le_refl _) HB.out hsw5 hgrow)
        clear hown' hgrow
        go_wp2
        go_roundw
        case rel =>
          refine ⟨j + 1, by omega, by go_num, ?_, HB6.out⟩
          rw [HSt.out]
          show OwnD _ _ _ (pre ++ [z]).length (pre ++ [z])
          rw [List.length_append, ← HK.out]
          unfold OwnD
          rw [List.map_append]
          exact HOwn'.out
        case measure => simp [ivl] <;> omega
    · obtain rfl : j = m := by omega
      have e0 : C.take j = C := List.take_of_length_le (by rw [HM.out]; exact Nat.le_refl _)
      rw [e0, ← HT.out] at HOwn
      have HE := Lib.hid (And.intro (HOwn.out.base hsz) (bthen HB3.out HB.out))
      have j1 : ¬ (j : Int) < (j : Int) := by omega
      clear e0
      go_wp2
      go_ret
      exact ⟨_, rfl, HE.out⟩
end
end Go.Proofs.YtdndafdninnjfaaGreat
