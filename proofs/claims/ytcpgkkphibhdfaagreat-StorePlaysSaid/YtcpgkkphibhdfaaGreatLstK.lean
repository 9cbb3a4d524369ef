/-
  Sorted lists: the library's sort answers what the document's does; what Changed of the landed store answers.
-/
import Derived.Test.YtcpgkkphibhdfaaGreatLstJ
import Derived.Test.YtcpgkkphibhdfaaGreatShf
namespace Go.Proofs.YtcpgkkphibhdfaaGreat
open Go.RowKit

theorem takeW_le {x : Int} : ∀ (l : List Int), ∀ y ∈ l.takeWhile (fun y => decide (y ≤ x)), y ≤ x
  | [], y, h => by cases h
  | a :: l, y, h => by
    rw [List.takeWhile_cons] at h
    by_cases c : a ≤ x
    · rw [decide_eq_true c, if_pos rfl] at h
      rcases List.mem_cons.1 h with rfl | h
      · exact c
      · exact takeW_le l y h
    · rw [decide_eq_false c] at h
      cases h
theorem dropW_le {x : Int} : ∀ (l : List Int), l.Pairwise (· ≤ ·) → ∀ y ∈ l.dropWhile (fun y => decide (y ≤ x)), x ≤ y
  | [], _, y, h => by cases h
  | a :: l, hp, y, h => by
    rw [List.dropWhile_cons] at h
    by_cases c : a ≤ x
    · rw [decide_eq_true c, if_pos rfl] at h
      exact dropW_le l (List.pairwise_cons.1 hp).2 y h
    · rw [decide_eq_false c] at h
      simp only [Bool.false_eq_true, if_false] at h
      rcases List.mem_cons.1 h with rfl | h
      · omega
      · have := (List.pairwise_cons.1 hp).1 y h
        omega
theorem ins_sorted {out : List Int} (h : out.Pairwise (· ≤ ·)) (x : Int) : (insI out x).Pairwise (· ≤ ·) := by
  unfold insI
  refine List.pairwise_append.2 ⟨h.sublist (List.takeWhile_sublist _), List.pairwise_cons.2 ⟨dropW_le out h, h.sublist (List.dropWhile_sublist _)⟩, fun a ha b hb => ?_⟩
  have h1 := takeW_le out a ha
  rcases List.mem_cons.1 hb with rfl | hb
  · exact h1
  · have := dropW_le out h b hb
    omega
theorem sort_sorted : ∀ (l out : List Int), out.Pairwise (· ≤ ·) → (l.foldl insI out).Pairwise (· ≤ ·)
  | [], _, h => h
  | x :: l, out, h => sort_sorted l (insI out x) (ins_sorted h x)
/-- however they came -/
theorem srt_eq {l l' : List Int} (h : l.Perm l') : l.mergeSort (fun x y => decide (x ≤ y)) = sortI l' := by
  have tr : ∀ a b c : Int, decide (a ≤ b) = true → decide (b ≤ c) = true → decide (a ≤ c) = true := fun a b c h1 h2 => by simp only [decide_eq_true_eq] at *; omega
  have tt : ∀ a b : Int, (decide (a ≤ b) || decide (b ≤ a)) = true := fun a b => by simp only [Bool.or_eq_true, decide_eq_true_eq]; omega
  have hp : (sortI l').Perm l' := by have := sort_perm l' []; rwa [List.append_nil] at this
  refine List.Perm.eq_of_pairwise (le := fun a b => decide (a ≤ b) = true) (fun a b _ _ h1 h2 => ?_) (List.pairwise_mergeSort tr tt l) ((sort_sorted l' [] List.Pairwise.nil).imp (fun {a b} c => decide_eq_true c)) (((List.mergeSort_perm l _).trans h).trans hp.symm)
  simp only [decide_eq_true_eq] at h1 h2
  omega
/-- slices.Sort of names that the call itself has laid -/
theorem sort9_any {w : World} {base n : Nat} {v : Value} {xs : List Int} (h : OwnD w base v n xs) (hn : n ≤ 100000) :
    Calls Tryz.prog 49 #[v] w fun e w' => e = .returned (.tuple #[]) ∧ OwnD w' base v n (xs.mergeSort (fun x y => decide (x ≤ y))) ∧ w.grownBy w' v.ownBlock := by
  have hl : xs.length = n := by have := h.1; rw [List.length_map, Nat.mul_one] at this; exact this
  rcases h.2 with ⟨rfl, h0⟩ | ⟨g, cap, cur, rfl, hb, hg, hn1, hm, hs, ht⟩
  · have hx : xs = [] := List.eq_nil_of_length_eq_zero (by omega)
    subst hx
    refine (AnyM.slices_Sort_int_none lay_sortB none 0 w).mono ?_
    rintro e w' ⟨rfl, rfl⟩
    exact ⟨rfl, by simpa using h, ⟨rfl, rfl, rfl, Nat.le_refl _, fun _ _ _ => rfl⟩⟩
  · subst hl
    have hH : Go.Sort.Holds encZ w g 0 xs.toArray := holds_of_block_i hg (by simpa using ht)
    refine (AnyM.slices_Sort_int lay_sortB g 0 cap xs w hH (Array.getElem?_eq_some_iff.1 hg).1 (by omega)).mono ?_
    rintro e w' ⟨rfl, nn, os, rfl⟩
    exact ⟨rfl, ownsRow_sorted_i (by simp) hb hg hn1 hm (by simpa using hs), grownBy_sorted_i _⟩

/-! Changed -/
theorem allL_nod (G : Nat → Int) (L : Nat → Bool) : ∀ k, k ≤ 256 → (∀ i, 0 ≤ G i) → (allL G L k).Nodup
  | k, hk, hG => by
    unfold allL
    refine List.pairwise_map.2 ((List.Pairwise.filter _ List.pairwise_lt_range).imp_of_mem fun {a b} ha hb h e => ?_)
    rw [List.mem_filter, List.mem_range] at ha hb
    unfold nm at e
    have := hG a
    have := hG b
    omega
def chK (lt : Nat → Int) (since : Int) (l : List Int) : List Int := l.filter fun x => decide (since < lt (x % 256).toNat)
theorem nod_snd : ∀ (l : List (Int × Int)), (l.map Prod.fst).Nodup → ∀ x a b, (x, a) ∈ l → (x, b) ∈ l → a = b
  | [], _, x, a, b, h, _ => by cases h
  | (y, c) :: l, hn, x, a, b, ha, hb => by
    rw [List.map_cons, List.nodup_cons] at hn
    rcases List.mem_cons.1 ha with ea | ha'
    · rcases List.mem_cons.1 hb with eb | hb'
      · injection ea with _ ea
        injection eb with _ eb
        rw [ea, eb]
      · injection ea with ea _
        exact absurd (List.mem_map.2 ⟨_, hb', ea⟩) hn.1
    · rcases List.mem_cons.1 hb with eb | hb'
      · injection eb with eb _
        exact absurd (List.mem_map.2 ⟨_, ha', eb⟩) hn.1
      · exact nod_snd l hn.2 x a b ha' hb'
theorem ch_perm {S : St} {ls lt : Nat → Int} (hI : LI S ls lt) (hW : WS S) (since : Int) : (chK lt since (alS S)).Perm ((S.ch.filter fun x => liveS S x.1 && decide (since < x.2)).map Prod.fst) := by
  refine (List.perm_ext_iff_of_nodup ?_ ?_).2 fun x => ?_
  · exact List.Nodup.sublist List.filter_sublist (allL_nod S.G S.L 256 (by omega) (fun i => (hW.ok.2.1 i).1))
  · exact List.Nodup.sublist (List.Sublist.map _ List.filter_sublist) hI.chn
  · unfold chK
    rw [List.mem_filter, mem_all hW, List.mem_map]
    constructor
    · rintro ⟨h1, h2⟩
      refine ⟨_, List.mem_filter.2 ⟨hI.chm x h1, ?_⟩, rfl⟩
      rw [h1]
      exact h2
    · rintro ⟨⟨y, t⟩, hy, rfl⟩
      rw [List.mem_filter, Bool.and_eq_true] at hy
      refine ⟨hy.2.1, ?_⟩
      have hm := hI.chm y hy.2.1
      rw [nod_snd _ hI.chn _ _ _ hm hy.1]
      exact hy.2.2
theorem chK_yes {lt : Nat → Int} {since x : Int} {xs : List Int} {k : Nat} (h : xs[k]? = some x) (hc : since < lt (x % 256).toNat) : chK lt since (xs.take (k + 1)) = chK lt since (xs.take k) ++ [x] := by
  unfold chK
  rw [List.take_add_one, h, List.filter_append]
  simp [hc]
theorem chK_no {lt : Nat → Int} {since x : Int} {xs : List Int} {k : Nat} (h : xs[k]? = some x) (hc : ¬ since < lt (x % 256).toNat) : chK lt since (xs.take (k + 1)) = chK lt since (xs.take k) := by
  unfold chK
  rw [List.take_add_one, h, List.filter_append]
  simp [hc]
theorem LRes.of9 {w w' : World} {base : Nat} {v : Value} {n : Nat} {zs : List Int} (h : OwnD w' base v n zs) (hw : w.heap.size ≤ base) : LRes w w' zs v := by
  obtain ⟨a, cap, rfl, hr⟩ := h.row
  have hl : zs.length = n := hr.1
  subst hl
  refine ⟨a, cap, rfl, hr, ?_⟩
  rcases h.2 with ⟨_, h0⟩ | ⟨g, cap', cur, hv, hb, _⟩
  · exact Or.inl h0
  · refine Or.inr (fun ad e => ?_)
    injection hv with hv _ _
    rw [e] at hv
    injection hv with hv
    rw [hv]
    exact Nat.le_trans hw hb
theorem own_below9 {w wr w' : World} {base : Nat} {v : Value} {n : Nat} {zs : List Int} (ho : OwnD wr base v n zs) (hw : w.heap.size ≤ base) (hb : Below w.heap.size w wr) (hg : wr.grownBy w' v.ownBlock) : Below w.heap.size w w' :=
  ⟨hg.os.trans hb.os, hg.tape.trans hb.tape, hg.output.trans hb.output, Nat.le_trans hb.size hg.size, fun k hk => (hg.block k (Nat.lt_of_lt_of_le hk hb.size) (fun e => by have := (World.ownsRow.lt ho k e.symm).1; omega)).trans (hb.block k hk)⟩
set_option maxHeartbeats 4000000 in
set_option maxRecDepth 100000 in
theorem lchanged_any {w : World} {g : Nat} {F : Nat → Prop} {S : St} (h0 : LSB w g F S) (hW : WS S) (since : Int) :
    Calls Tryz.prog 15 #[.pointer (some ⟨g, 0, none⟩), .int .i64 since] w fun e w' => ∃ v, e = .returned v ∧ LRes w w' (chL S since) v ∧ Below w.heap.size w w' := by
  have HAl := Lib.hid (lall_any h0 hW)
  obtain ⟨ls, lt, ⟨p, mb, ts, Lf, gv, lab, h, hF⟩, hI⟩ := h0
  have HCh : Hid ((chK lt since (alS S)).mergeSort (fun x y => decide (x ≤ y)) = chL S since) := Lib.hid (srt_eq (ch_perm hI hW since))
  have HLv : Hid (∀ x ∈ alS S, idOk x = true) := Lib.hid (fun x hx => live_ok ((mem_all hW).1 hx))
  have HT : Hid (∀ u, Below w.heap.size w u → ∀ k, k < 256 → u.cell? ⟨g, 3 + k * 2 + 1, none⟩ = some (.int .i64 (lt k))) := Lib.hid (fun u q k hk => (h.keep q).cT hk)
  have hg := h.row.lt
  have hlen : (alS S).length ≤ 256 := by
    unfold alS allL
    rw [List.length_map]
    exact Nat.le_trans (List.length_filter_le _ _) (by rw [List.length_range]; exact Nat.le_refl _)
  obtain ⟨xs, hxs⟩ : ∃ xs, xs = alS S := ⟨_, rfl⟩
  rw [← hxs] at HAl HCh HLv hlen
  obtain ⟨i0, hi0, hz0, hz1, hz2⟩ := info_parts id_info
  have HI := Lib.hid (And.intro hi0 (And.intro hz0 (And.intro hz1 hz2)))
  clear hi0 hz0 hz1 hz2 h hF hI hW hxs
  obtain ⟨n, hn⟩ : ∃ n, n = xs.length := ⟨_, rfl⟩
  rw [← hn] at HAl hlen
  have HN := Lib.hid hn
  clear hn
  go_enter Tryz.func15, Tryz.ntmps15
  go_wp2_with fail
  refine HAl.out.mono ?_
  rintro e w1 ⟨a, cap, rfl, hrow, hb1⟩
  have HRow := Lib.hid hrow
  have HB1 := Lib.hid hb1
  have hbig := hrow.2.1
  clear hrow hb1 HAl
  go_wp2
  have hsz1 : w.heap.size ≤ w1.heap.size := HB1.out.size
  go_loopw [5, 11] (fun v i wr => ∃ k : Nat, k ≤ n ∧ i = .int .i64 k ∧ OwnD wr w1.heap.size v (chK lt since (xs.take k)).length (chK lt since (xs.take k)) ∧ Below w1.heap.size w1 wr) (fun _ i _ => n - (ivl i).toNat)
  case atStart => exact ⟨0, by omega, rfl, OwnD.nil _ _, Below.refl _ _⟩
  case round =>
    obtain ⟨k, hk, rfl, hown, hb⟩ := hrel
    have HOwn := Lib.hid hown
    have HB := Lib.hid hb
    have hgw : g < wr.heap.size := Nat.lt_of_lt_of_le (Nat.lt_of_lt_of_le hg hsz1) hb.size
    have hsz : w1.heap.size ≤ wr.heap.size := hb.size
    have hcl : (chK lt since (xs.take k)).length ≤ 256 := by
      unfold chK
      refine Nat.le_trans (List.length_filter_le _ _) ?_
      rw [List.length_take]
      omega
    clear hown hb
    by_cases hlt : k < n
    · obtain ⟨b, off, x, rfl, hx, cx⟩ := row_at (row_keep HRow.out HB.out) hlt
      have hbl := World.block_lt_of_cell? _ _ cx
      obtain ⟨j, hj, hj2, hix⟩ := ix_any (HLv.out x (List.mem_of_getElem? hx))
      have HIx := Lib.hid hix
      have ct := HT.out wr (bthen HB1.out HB.out) j hj
      have k0 : (0 : Int) ≤ (k : Int) := by omega
      have k1 : (k : Int) < (n : Int) := by omega
      have j0 : (0 : Int) ≤ (j : Int) := by omega
      have j1 : (j : Int) < 256 := by omega
      obtain ⟨t, ht⟩ : ∃ t, t = lt j := ⟨_, rfl⟩
      rw [← ht] at ct
      have HYes : Hid (since < t → chK lt since (xs.take (k + 1)) = chK lt since (xs.take k) ++ [x]) := Lib.hid (fun c => chK_yes hx (by rw [hj2, ← ht]; exact c))
      have HNo : Hid (¬ since < t → chK lt since (xs.take (k + 1)) = chK lt since (xs.take k)) := Lib.hid (fun c => chK_no hx (by rw [hj2, ← ht]; exact c))
      obtain ⟨C, hC⟩ : ∃ C, C = chK lt since (xs.take k) := ⟨_, rfl⟩
      rw [← hC] at HYes HNo HOwn hcl
      obtain ⟨m, hm⟩ : ∃ m, m = C.length := ⟨_, rfl⟩
      rw [← hm] at HOwn hcl
      have HM := Lib.hid hm
      clear hix hj2 hx ht hC hm
      by_cases hc : since < t
      · replace HYes := Lib.hid (HYes.out hc)
        clear HNo
        go_wp2
        go_quiet (first | (go_at_call 48; refine Calls.quiet_of_same ((HIx.out _).mono fun _ _ q => ⟨q.1, q.2.symm⟩)))
        refine fin (fun W => OwnD W w1.heap.size u5 m C ∧ Below w1.heap.size w1 W) ⟨ownD_keep HOwn.out (Go.below_drewN (Below.refl _ _) nq), Go.below_drewN HB.out nq⟩ ?_
        rintro W ⟨ho, hb⟩
        have HO2 := Lib.hid ho
        have HB2 := Lib.hid hb
        have hs2 : w1.heap.size ≤ W.heap.size := hb.size
        clear ho hb ct cx HOwn HB
        go_wp2_with (at_builtin; refine wpList_append_own _ rfl (.tmp 25) (.tmp 27) 53 rfl w1.heap.size 35 i0 (.int .i64 0) 1 8 Tryz.underlying53 HI.out.1 HI.out.2.1 HI.out.2.2.1 HI.out.2.2.2 rfl (by decide) _ _ _ rfl (HO2.out.alloc _) ⟨W.heap.size, 0, none⟩ 1 1 [.int .i64 x] rfl rfl (cell_one_new _ _ _) (by intro u hu; simp at hu; subst hu; rfl) (by unfold maxLen; omega) (by omega) (by simp; omega) ?_)
        intro v' w2 hown' hgrow _
        have HOwn' := Lib.hid hown'
        have HGr := Lib.hid hgrow
        clear hown' hgrow
        go_wp2
        go_roundw
        case rel =>
          have el : (chK lt since (xs.take (k + 1))).length = m + 1 := by rw [HYes.out, List.length_append, ← HM.out]; rfl
          refine ⟨k + 1, by omega, by go_num, ?_, grownD_below HO2.out (Nat.le_refl _) HB2.out hs2 HGr.out⟩
          rw [el]
          unfold OwnD
          rw [HYes.out, List.map_append]
          exact HOwn'.out
        case measure => simp [ivl] <;> omega
      · have hcc : decide (since < t) = false := decide_eq_false hc
        replace HNo := Lib.hid (HNo.out hc)
        clear HYes
        go_wp2
        go_quiet (first | (go_at_call 48; refine Calls.quiet_of_same ((HIx.out _).mono fun _ _ q => ⟨q.1, q.2.symm⟩)))
        go_wp2
        go_roundw
        case rel => exact ⟨k + 1, by omega, by go_num, by rw [HNo.out, ← HM.out]; exact ownD_keep HOwn.out (Go.below_drewN (Below.refl _ _) nq), Go.below_drewN HB.out nq⟩
        case measure => simp [ivl] <;> omega
    · obtain rfl : k = n := by omega
      have e0 : xs.take k = xs := List.take_of_length_le (by have := HN.out; omega)
      rw [e0] at HOwn hcl
      have HS := Lib.hid (sort9_any HOwn.out (by omega))
      obtain ⟨qa, qcap, hqv, hqr⟩ := HOwn.out.row
      clear hqr
      subst hqv
      clear e0
      go_wp2_with fail
      refine HS.out.mono ?_
      rintro e w2 ⟨rfl, ho, hgr⟩
      have HR : Hid (LRes w w2 (chL S since) (.slice qa (chK lt since xs).length qcap) ∧ Below w.heap.size w w2) := Lib.hid ⟨by
        rw [HCh.out] at ho
        exact LRes.of9 ho hsz1, bthen HB1.out (own_below9 HOwn.out (Nat.le_refl _) HB.out hgr)⟩
      clear ho hgr HS
      go_wp2
      go_ret
      exact ⟨_, rfl, HR.out.1, HR.out.2⟩

end Go.Proofs.YtcpgkkphibhdfaaGreat
