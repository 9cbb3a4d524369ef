/-
  The landed store: what Gone answers; what IDs of the landed table answers.
-/
import Derived.Test.YtcpgkkphibhdfaaGreatLstK
namespace Go.Proofs.YtcpgkkphibhdfaaGreat
open Go.RowKit

def goK (S : St) (k : Nat) : List Int := ((S.go.drop k).reverse).map Prod.fst
theorem goK_step {S : St} {k : Nat} {x : Int × Int} (h : S.go[k]? = some x) : goK S k = goK S (k + 1) ++ [x.1] := by
  unfold goK
  have : S.go.drop k = x :: S.go.drop (k + 1) := by
    obtain ⟨hk, e⟩ := List.getElem?_eq_some_iff.1 h
    rw [← e, List.drop_eq_getElem_cons hk]
  rw [this, List.reverse_cons, List.map_append]
  rfl
theorem go_filter {S : St} {since : Int} {k : Nat} (hd : ∀ x ∈ S.go.drop k, since < x.2) (ht : ∀ x ∈ S.go.take k, x.2 ≤ since) : S.go.filter (fun x => decide (since < x.2)) = S.go.drop k := by
  have e : S.go = S.go.take k ++ S.go.drop k := (List.take_append_drop k S.go).symm
  rw [e, List.filter_append, List.filter_eq_nil_iff.2 (fun x hx => by have := ht x hx; simpa using this), List.filter_eq_self.2 (fun x hx => by have := hd x hx; simpa using this), List.nil_append, ← e]
theorem go_srt {S : St} {since : Int} {k : Nat} (hp : S.go.Pairwise (fun a b => a.2 ≤ b.2)) (hd : ∀ x ∈ S.go.drop k, since < x.2) (hk : ∀ x, 0 < k → S.go[k - 1]? = some x → x.2 ≤ since) (hl : k ≤ S.go.length) : (goK S k).mergeSort (fun x y => decide (x ≤ y)) = goL S since := by
  have ht : ∀ x ∈ S.go.take k, x.2 ≤ since := fun x hx => by
    obtain ⟨j, hj, e⟩ := List.mem_iff_getElem.1 hx
    rw [List.length_take] at hj
    rw [List.getElem_take] at e
    have hk1 : k - 1 < S.go.length := by omega
    have h1 := hk _ (by omega) (List.getElem?_eq_getElem hk1)
    by_cases c : j = k - 1
    · subst c; rw [← e]; exact h1
    · have := List.pairwise_iff_getElem.1 hp j (k - 1) (by omega) hk1 (by omega)
      rw [← e]
      omega
  refine srt_eq ?_
  rw [go_filter hd ht]
  unfold goK
  exact (List.reverse_perm _).map _
set_option maxHeartbeats 4000000 in
set_option maxRecDepth 100000 in
theorem lgone_any {w : World} {g : Nat} {F : Nat → Prop} {S : St} (h0 : LSB w g F S) (hB : Bd S 1000) (since : Int) :
    Calls Tryz.prog 16 #[.pointer (some ⟨g, 0, none⟩), .int .i64 since] w fun e w' => ∃ v, e = .returned v ∧ LRes w w' (goL S since) v ∧ Below w.heap.size w w' := by
  obtain ⟨ls, lt, ⟨p, mb, ts, Lf, gv, lab, h, hF⟩, hI⟩ := h0
  have HP := Lib.hid hI.gop
  have hg := h.row.lt
  have hlen := hB.2.1
  have c515 := h.c515
  obtain ⟨a, cap, hv, hcap, hmax⟩ := ColX.form h.gos
  rw [List.length_map] at hv hcap
  have hcol := h.gos
  rw [hv] at hcol c515
  have HR : Hid (∀ u, Below w.heap.size w u → ∀ j x, S.go[j]? = some x → ∃ b, a = some ⟨b, 0, none⟩ ∧ b < u.heap.size ∧ u.cell? ⟨b, j * 2, none⟩ = some (.int .i64 x.1) ∧ u.cell? ⟨b, j * 2 + 1, none⟩ = some (.int .i64 x.2)) := Lib.hid (fun u q j x hx => by
    have hj := (List.getElem?_eq_some_iff.1 hx).1
    obtain ⟨b, cap', cur, hvv, hbk, _⟩ := ColX.open_ hcol (by rw [List.length_map]; omega)
    injection hvv with hvv _ _
    subst hvv
    have hr := ColX.range (c := cG) (k := 2) (fun _ => rfl) hcol (i := j) (x := mkG x) (by rw [List.getElem?_map, hx]; rfl)
    have h1 : w.cell? ⟨b, j * 2, none⟩ = some (.int .i64 x.1) := hr 0 _ rfl
    have h2 : w.cell? ⟨b, j * 2 + 1, none⟩ = some (.int .i64 x.2) := hr 1 _ rfl
    exact ⟨b, rfl, Nat.lt_of_lt_of_le hbk.lt q.size, cell_keep h1 q, cell_keep h2 q⟩)
  have HC : Hid (∀ u, Below w.heap.size w u → u.cell? ⟨g, 515, none⟩ = some (.slice a S.go.length cap)) := Lib.hid (fun u q => cell_keep c515 q)
  obtain ⟨i0, hi0, hz0, hz1, hz2⟩ := info_parts id_info
  have HI := Lib.hid (And.intro hi0 (And.intro hz0 (And.intro hz1 hz2)))
  obtain ⟨n, hn⟩ : ∃ n, n = S.go.length := ⟨_, rfl⟩
  rw [← hn] at c515 HC hcap hlen
  have HN := Lib.hid hn
  clear hi0 hz0 hz1 hz2 h hF hI hB hcol hv hn
  go_enter Tryz.func16, Tryz.ntmps16
  go_wp2
  go_loopw [5, 6] (fun v i wr => ∃ k : Nat, k ≤ n ∧ i = .int .i64 ((k : Int) - 1) ∧ (∀ x ∈ S.go.drop k, since < x.2) ∧ OwnD wr w.heap.size v (n - k) (goK S k) ∧ Below w.heap.size w wr) (fun _ i _ => (ivl i + 1).toNat)
  case atStart => exact ⟨n, by omega, by go_num, by rw [HN.out, List.drop_length]; simp, by rw [Nat.sub_self, show goK S n = [] by unfold goK; rw [HN.out, List.drop_length]; rfl]; exact OwnD.nil _ _, Below.refl _ _⟩
  case round =>
    obtain ⟨k, hk, rfl, hall, hown, hb⟩ := hrel
    have HAll := Lib.hid hall
    have HOwn := Lib.hid hown
    have HB := Lib.hid hb
    have hgw : g < wr.heap.size := Nat.lt_of_lt_of_le hg hb.size
    have hsz : w.heap.size ≤ wr.heap.size := hb.size
    have cw := HC.out wr hb
    clear hall hown hb c515
    have HEnd : Hid ((∀ x, 0 < k → S.go[k - 1]? = some x → x.2 ≤ since) → ∃ v : Value, ∃ nn qa qcap, v = .slice qa nn qcap ∧ u5 = v ∧ Calls Tryz.prog 49 #[v] wr fun e w2 => e = .returned (.tuple #[]) ∧ LRes w w2 (goL S since) v ∧ Below w.heap.size w w2) := Lib.hid (fun hx => by
      obtain ⟨qa, qcap, hqv, _⟩ := HOwn.out.row
      refine ⟨u5, n - k, qa, qcap, hqv, rfl, ?_⟩
      refine (sort9_any HOwn.out (by omega)).mono ?_
      rintro e w2 ⟨rfl, ho, hgr⟩
      refine ⟨rfl, ?_, own_below9 HOwn.out (Nat.le_refl _) HB.out hgr⟩
      rw [go_srt HP.out HAll.out hx (by rw [← HN.out]; exact hk)] at ho
      exact LRes.of9 ho (Nat.le_refl _))
    by_cases hk0 : k = 0
    · subst hk0
      obtain ⟨v, nn, qa, qcap, hv, hu, hs⟩ := HEnd.out (fun x c => by omega)
      have HS := Lib.hid hs
      subst hu
      subst hv
      clear hs HEnd
      go_wp2_with fail
      refine HS.out.mono ?_
      rintro e w2 ⟨rfl, hr, hb⟩
      have HR2 := Lib.hid (And.intro hr hb)
      clear hr hb
      go_wp2
      go_ret
      exact ⟨_, rfl, HR2.out.1, HR2.out.2⟩
    · obtain ⟨j, rfl⟩ : ∃ j, k = j + 1 := ⟨k - 1, by omega⟩
      have hjn : j < n := by omega
      obtain ⟨x, hx⟩ : ∃ x, S.go[j]? = some x := ⟨_, List.getElem?_eq_getElem (by rw [← HN.out]; exact hjn)⟩
      obtain ⟨b, rfl, hbl, cx, ct⟩ := HR.out wr HB.out j x hx
      rw [show ((j + 1 : Nat) : Int) - 1 = (j : Int) by omega]
      have j0 : (0 : Int) ≤ (j : Int) := by omega
      have j1 : (j : Int) < (n : Int) := by omega
      have HK := Lib.hid (goK_step hx)
      have HX := Lib.hid hx
      obtain ⟨x1, t⟩ := x
      simp only at cx ct HK
      by_cases hc : since < t
      · have hcc : decide (since < t) = true := decide_eq_true hc
        clear HEnd hx
        go_wp2_with (at_builtin; refine wpList_append_own _ rfl (.tmp 31) (.tmp 40) 53 rfl w.heap.size 35 i0 (.int .i64 0) 1 8 Tryz.underlying53 HI.out.1 HI.out.2.1 HI.out.2.2.1 HI.out.2.2.2 rfl (by decide) _ _ _ rfl (HOwn.out.alloc _) ⟨wr.heap.size, 0, none⟩ 1 1 [.int .i64 x1] rfl rfl (cell_one_new _ _ _) (by intro u hu; simp at hu; subst hu; rfl) (by unfold maxLen; omega) (by omega) (by simp; omega) ?_)
        intro v' w2 hown' hgrow _
        have HOwn' := Lib.hid hown'
        have HGr := Lib.hid hgrow
        clear hown' hgrow
        go_wp2
        go_roundw
        case rel =>
          refine ⟨j, by omega, by go_num, fun y hy => ?_, ?_, grownD_below HOwn.out (Nat.le_refl _) HB.out hsz HGr.out⟩
          · obtain ⟨hj2, e⟩ := List.getElem?_eq_some_iff.1 HX.out
            rw [List.drop_eq_getElem_cons hj2, e] at hy
            rcases List.mem_cons.1 hy with rfl | hy
            · exact hc
            · exact HAll.out y hy
          · unfold OwnD
            rw [HK.out, List.map_append, show n - j = n - (j + 1) + 1 by omega]
            exact HOwn'.out
        case measure => simp [ivl] <;> omega
      · have hcc : decide (since < t) = false := decide_eq_false hc
        obtain ⟨v, nn, qa, qcap, hv, hu, hs⟩ := HEnd.out (fun y _ e => by
          rw [show j + 1 - 1 = j by omega, hx] at e
          injection e with e
          rw [← e]
          omega)
        have HS := Lib.hid hs
        subst hu
        subst hv
        clear hs HEnd hx
        go_wp2_with fail
        refine HS.out.mono ?_
        rintro e w2 ⟨rfl, hr, hb⟩
        have HR2 := Lib.hid (And.intro hr hb)
        clear hr hb
        go_wp2
        go_ret
        exact ⟨_, rfl, HR2.out.1, HR2.out.2⟩

/-! IDs -/
theorem clone9_any {w : World} {v : Value} {R : TR} (h : ColX w 35 1 cId v R) (hR : R.length ≤ 1000) :
    Calls Tryz.prog 83 #[v] w fun e w' => ∃ v', e = .returned v' ∧ LRes w w' (R.map Prod.fst) v' ∧ Below w.heap.size w w' := by
  rcases h.2 with ⟨rfl, h0⟩ | ⟨b, cap, cur, rfl, hb, hg, hn1, hm, hs, ht⟩
  · have hx : R = [] := List.eq_nil_of_length_eq_zero h0
    subst hx
    refine (AnyG.slices_Clone_int_nil lay_cloneB _ 0 w).mono ?_
    rintro e w' ⟨rfl, rfl⟩
    exact ⟨_, rfl, ⟨none, 0, rfl, ⟨rfl, by simp, Or.inl rfl⟩, Or.inl rfl⟩, Below.refl _ _⟩
  · refine (AnyG.slices_Clone_int lay_cloneB b 0 R.length cap (R.map Prod.fst) w (by rw [List.length_map]; exact Nat.le_refl _) (by omega) (fun j hj => ?_)).mono ?_
    · rw [List.length_map] at hj
      have hr := ColX.range (c := cId) (k := 1) (fun _ => rfl) h (i := j) (x := R[j]) (List.getElem?_eq_getElem hj) 0 _ rfl
      rw [Nat.mul_one, Nat.add_zero] at hr
      rw [Nat.zero_add, hr]
      simp [List.getD, List.getElem?_eq_getElem hj]
    · rintro e w' ⟨v', rfl, ho, _, hbl⟩
      refine ⟨v', rfl, LRes.of9 (base := w.heap.size) (n := R.length) ?_ (Nat.le_refl _), hbl⟩
      unfold OwnD
      rw [List.take_of_length_le (by rw [List.length_map]; exact Nat.le_refl _)] at ho
      exact ho
set_option maxHeartbeats 1000000 in
set_option maxRecDepth 100000 in
theorem tids_any {w : World} {a : Nat} {L : Nat → Prop} {s : Int} {R : TR} (h : TBl w a L s R) (hR : R.length ≤ 1000) :
    Calls Tryz.prog 47 #[.pointer (some ⟨a, 0, none⟩)] w fun e w' => ∃ v', e = .returned v' ∧ LRes w w' (R.map Prod.fst) v' ∧ Below w.heap.size w w' := by
  obtain ⟨v, h1, _⟩ := h
  have c1 : w.cell? ⟨a, 1, none⟩ = some (v 0) := (h1.cell (j := 0) (by omega)).1
  have hg := h1.blk.lt
  have HCl := Lib.hid (clone9_any (h1.own 0 (by omega)) (by rw [Rs0]; exact hR))
  rw [Rs0] at HCl
  obtain ⟨x, cap, hv, _⟩ := (h1.own 0 (by omega)).form
  rw [Rs0] at hv
  rw [hv] at c1 HCl
  obtain ⟨n, hn⟩ : ∃ n, n = R.length := ⟨_, rfl⟩
  rw [← hn] at c1 HCl
  clear h1 hv hn
  go_enter Tryz.func47, Tryz.ntmps47
  go_wp2_with fail
  refine HCl.out.mono ?_
  rintro e w1 ⟨v', rfl, hr, hb⟩
  have HR := Lib.hid (And.intro hr hb)
  clear hr hb
  go_wp2
  go_ret
  exact ⟨v', rfl, HR.out.1, HR.out.2⟩

end Go.Proofs.YtcpgkkphibhdfaaGreat
