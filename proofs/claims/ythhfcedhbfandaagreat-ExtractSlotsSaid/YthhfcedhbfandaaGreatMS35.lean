/-
  5 texts in one file, each with its own heading.
-/
import Derived.Test.YthhfcedhbfandaaGreatMS34
import Derived.Test.YthhfcedhbfandaaGreatMS32
import Derived.Test.YthhfcedhbfandaaGreatMS26
import Derived.Maps.RangeWalk
import Derived.Test.YthhfcedhbfandaaGreatMS30
/-
  The landed store: what Changed answers.
-/
namespace Go.Proofs.YthhfcedhbfandaaGreat
open Go.RowKit

theorem allL_nod (G : Nat → Int) (L : Nat → Bool) : ∀ k, k ≤ 256 → (∀ i, 0 ≤ G i) → (allL G L k).Nodup
  | k, hk, hG => by
    unfold allL
    refine List.pairwise_map.2 ((List.Pairwise.filter _ List.pairwise_lt_range).imp_of_mem fun {a b} ha hb h e => ?_)
    rw [List.mem_filter, List.mem_range] at ha hb
    unfold nm at e
    have := hG a
    have := hG b
    omega
def chK (lt : Nat → Int) (since : Int) (l : List Int) : List Int := l.filter fun x => decide (since < lt (x % 256).toNat)
theorem nod_snd : ∀ (l : List (Int × Int)), (l.map Prod.fst).Nodup → ∀ x a b, (x, a) ∈ l → (x, b) ∈ l → a = b
  | [], _, x, a, b, h, _ => by cases h
  | (y, c) :: l, hn, x, a, b, ha, hb => by
    rw [List.map_cons, List.nodup_cons] at hn
    rcases List.mem_cons.1 ha with ea | ha'
    · rcases List.mem_cons.1 hb with eb | hb'
      · injection ea with _ ea
        injection eb with _ eb
        rw [ea, eb]
      · injection ea with ea _
        exact absurd (List.mem_map.2 ⟨_, hb', ea⟩) hn.1
    · rcases List.mem_cons.1 hb with eb | hb'
      · injection eb with eb _
        exact absurd (List.mem_map.2 ⟨_, ha', eb⟩) hn.1
      · exact nod_snd l hn.2 x a b ha' hb'
theorem ch_perm {S : St} {ls lt : Nat → Int} (hI : LI S ls lt) (hW : WS S) (since : Int) : (chK lt since (alS S)).Perm ((S.ch.filter fun x => liveS S x.1 && decide (since < x.2)).map Prod.fst) := by
  refine (List.perm_ext_iff_of_nodup ?_ ?_).2 fun x => ?_
  · exact List.Nodup.sublist List.filter_sublist (allL_nod S.G S.L 256 (by omega) (fun i => (hW.ok.2.1 i).1))
  · exact List.Nodup.sublist (List.Sublist.map _ List.filter_sublist) hI.chn
  · unfold chK
    rw [List.mem_filter, mem_all hW, List.mem_map]
    constructor
    · rintro ⟨h1, h2⟩
      refine ⟨_, List.mem_filter.2 ⟨hI.chm x h1, ?_⟩, rfl⟩
      rw [h1]
      exact h2
    · rintro ⟨⟨y, t⟩, hy, rfl⟩
      rw [List.mem_filter, Bool.and_eq_true] at hy
      refine ⟨hy.2.1, ?_⟩
      have hm := hI.chm y hy.2.1
      rw [nod_snd _ hI.chn _ _ _ hm hy.1]
      exact hy.2.2
theorem chK_yes {lt : Nat → Int} {since x : Int} {xs : List Int} {k : Nat} (h : xs[k]? = some x) (hc : since < lt (x % 256).toNat) : chK lt since (xs.take (k + 1)) = chK lt since (xs.take k) ++ [x] := by
  unfold chK
  rw [List.take_add_one, h, List.filter_append]
  simp [hc]
theorem chK_no {lt : Nat → Int} {since x : Int} {xs : List Int} {k : Nat} (h : xs[k]? = some x) (hc : ¬ since < lt (x % 256).toNat) : chK lt since (xs.take (k + 1)) = chK lt since (xs.take k) := by
  unfold chK
  rw [List.take_add_one, h, List.filter_append]
  simp [hc]
set_option maxHeartbeats 4000000 in
set_option maxRecDepth 100000 in
theorem lchanged_any {w : World} {g : Nat} {F : Nat → Prop} {S : St} (h0 : LSB w g F S) (hW : WS S) (since : Int) :
    Calls Tryz.prog 193 #[.pointer (some ⟨g, 0, none⟩), .int .i64 since] w fun e w' => ∃ v, e = .returned v ∧ LRes w w' (chL S since) v ∧ Below w.heap.size w w' := by
  have HAl := Lib.hid (lall_any h0 hW)
  obtain ⟨ls, lt, ⟨p, mb, ts, Lf, gv, lab, h, hF⟩, hI⟩ := h0
  have HCh : Hid ((chK lt since (alS S)).mergeSort (fun x y => decide (x ≤ y)) = chL S since) := Lib.hid (srt_eq (ch_perm hI hW since))
  have HLv : Hid (∀ x ∈ alS S, idOk x = true) := Lib.hid (fun x hx => live_ok ((mem_all hW).1 hx))
  have HT : Hid (∀ u, Below w.heap.size w u → ∀ k, k < 256 → u.cell? ⟨g, 3 + k * 2 + 1, none⟩ = some (.int .i64 (lt k))) := Lib.hid (fun u q k hk => (h.keep q).cT hk)
  have hg := h.row.lt
  have hlen : (alS S).length ≤ 256 := by
    unfold alS allL
    rw [List.length_map]
    exact Nat.le_trans (List.length_filter_le _ _) (by rw [List.length_range]; exact Nat.le_refl _)
  obtain ⟨xs, hxs⟩ : ∃ xs, xs = alS S := ⟨_, rfl⟩
  rw [← hxs] at HAl HCh HLv hlen
  obtain ⟨i0, hi0, hz0, hz1, hz2⟩ := info_parts id_info
  have HI := Lib.hid (And.intro hi0 (And.intro hz0 (And.intro hz1 hz2)))
  clear hi0 hz0 hz1 hz2 h hF hI hW hxs
  obtain ⟨n, hn⟩ : ∃ n, n = xs.length := ⟨_, rfl⟩
  rw [← hn] at HAl hlen
  have HN := Lib.hid hn
  clear hn
  go_enter Tryz.func193, Tryz.ntmps193
  go_wp2_with fail
  refine HAl.out.mono ?_
  rintro e w1 ⟨a, cap, rfl, hrow, hb1⟩
  have HRow := Lib.hid hrow
  have HB1 := Lib.hid hb1
  have hbig := hrow.2.1
  clear hrow hb1 HAl
  go_wp2
  have hsz1 : w.heap.size ≤ w1.heap.size := HB1.out.size
  go_loopw [5, 11] (fun v i wr => ∃ k : Nat, k ≤ n ∧ i = .int .i64 k ∧ OwnD wr w1.heap.size v (chK lt since (xs.take k)).length (chK lt since (xs.take k)) ∧ Below w1.heap.size w1 wr) (fun _ i _ => n - (ivl i).toNat)
  case atStart => exact ⟨0, by omega, rfl, OwnD.nil _ _, Below.refl _ _⟩
  case round =>
    obtain ⟨k, hk, rfl, hown, hb⟩ := hrel
    have HOwn := Lib.hid hown
    have HB := Lib.hid hb
    have hgw : g < wr.heap.size := Nat.lt_of_lt_of_le (Nat.lt_of_lt_of_le hg hsz1) hb.size
    have hsz : w1.heap.size ≤ wr.heap.size := hb.size
    have hcl : (chK lt since (xs.take k)).length ≤ 256 := by
      unfold chK
      refine Nat.le_trans (List.length_filter_le _ _) ?_
      rw [List.length_take]
      omega
    clear hown hb
    by_cases hlt : k < n
    · obtain ⟨b, off, x, rfl, hx, cx⟩ := row_at (row_keep HRow.out HB.out) hlt
      have hbl := World.block_lt_of_cell? _ _ cx
      obtain ⟨j, hj, hj2, hix⟩ := ix_any (HLv.out x (List.mem_of_getElem? hx))
      have HIx := Lib.hid hix
      have ct := HT.out wr (bthen HB1.out HB.out) j hj
      have k0 : (0 : Int) ≤ (k : Int) := by omega
      have k1 : (k : Int) < (n : Int) := by omega
      have j0 : (0 : Int) ≤ (j : Int) := by omega
      have j1 : (j : Int) < 256 := by omega
      obtain ⟨t, ht⟩ : ∃ t, t = lt j := ⟨_, rfl⟩
      rw [← ht] at ct
      have HYes : Hid (since < t → chK lt since (xs.take (k + 1)) = chK lt since (xs.take k) ++ [x]) := Lib.hid (fun c => chK_yes hx (by rw [hj2, ← ht]; exact c))
      have HNo : Hid (¬ since < t → chK lt since (xs.take (k + 1)) = chK lt since (xs.take k)) := Lib.hid (fun c => chK_no hx (by rw [hj2, ← ht]; exact c))
      obtain ⟨C, hC⟩ : ∃ C, C = chK lt since (xs.take k) := ⟨_, rfl⟩
      rw [← hC] at HYes HNo HOwn hcl
      obtain ⟨m, hm⟩ : ∃ m, m = C.length := ⟨_, rfl⟩
      rw [← hm] at HOwn hcl
      have HM := Lib.hid hm
      clear hix hj2 hx ht hC hm
      by_cases hc : since < t
      · replace HYes := Lib.hid (HYes.out hc)
        clear HNo
        go_wp2
        go_quiet (first | (go_at_call 108; refine Calls.quiet_of_same ((HIx.out _).mono fun _ _ q => ⟨q.1, q.2.symm⟩)))
        refine fin (fun W => OwnD W w1.heap.size u5 m C ∧ Below w1.heap.size w1 W) ⟨ownD_keep HOwn.out (Go.below_drewN (Below.refl _ _) nq), Go.below_drewN HB.out nq⟩ ?_
        rintro W ⟨ho, hb⟩
        have HO2 := Lib.hid ho
        have HB2 := Lib.hid hb
        have hs2 : w1.heap.size ≤ W.heap.size := hb.size
        clear ho hb ct cx HOwn HB
        go_wp2_with (at_builtin; refine wpList_append_own _ rfl (.tmp 25) (.tmp 27) 35 rfl w1.heap.size 81 i0 (.int .i64 0) 1 8 Tryz.underlying35 HI.out.1 HI.out.2.1 HI.out.2.2.1 HI.out.2.2.2 rfl (by decide) _ _ _ rfl (HO2.out.alloc _) ⟨W.heap.size, 0, none⟩ 1 1 [.int .i64 x] rfl rfl (cell_one_new _ _ _) (by intro u hu; simp at hu; subst hu; rfl) (by unfold maxLen; omega) (by omega) (by simp; omega) ?_)
        intro v' w2 hown' hgrow _
        have HOwn' := Lib.hid hown'
        have HGr := Lib.hid hgrow
        clear hown' hgrow
        go_wp2
        go_roundw
        case rel =>
          have el : (chK lt since (xs.take (k + 1))).length = m + 1 := by rw [HYes.out, List.length_append, ← HM.out]; rfl
          refine ⟨k + 1, by omega, by go_num, ?_, grownD_below HO2.out (Nat.le_refl _) HB2.out hs2 HGr.out⟩
          rw [el]
          unfold OwnD
          rw [HYes.out, List.map_append]
          exact HOwn'.out
        case measure => simp [ivl] <;> omega
      · have hcc : decide (since < t) = false := decide_eq_false hc
        replace HNo := Lib.hid (HNo.out hc)
        clear HYes
        go_wp2
        go_quiet (first | (go_at_call 108; refine Calls.quiet_of_same ((HIx.out _).mono fun _ _ q => ⟨q.1, q.2.symm⟩)))
        go_wp2
        go_roundw
        case rel => exact ⟨k + 1, by omega, by go_num, by rw [HNo.out, ← HM.out]; exact ownD_keep HOwn.out (Go.below_drewN (Below.refl _ _) nq), Go.below_drewN HB.out nq⟩
        case measure => simp [ivl] <;> omega
    · obtain rfl : k = n := by omega
      have e0 : xs.take k = xs := List.take_of_length_le (by have := HN.out; omega)
      rw [e0] at HOwn hcl
      have HS := Lib.hid (sort9_any HOwn.out (by omega))
      obtain ⟨qa, qcap, hqv, hqr⟩ := HOwn.out.row
      clear hqr
      subst hqv
      clear e0
      go_wp2_with fail
      refine HS.out.mono ?_
      rintro e w2 ⟨rfl, ho, hgr⟩
      have HR : Hid (LRes w w2 (chL S since) (.slice qa (chK lt since xs).length qcap) ∧ Below w.heap.size w w2) := Lib.hid ⟨by
        rw [HCh.out] at ho
        exact LRes.of9 ho hsz1, bthen HB1.out (own_below9 HOwn.out (Nat.le_refl _) HB.out hgr)⟩
      clear ho hgr HS
      go_wp2
      go_ret
      exact ⟨_, rfl, HR.out.1, HR.out.2⟩

section
variable {X : Sc} {E E' E2 : XS} {zs : List Int} {e : Int}
theorem touch_ran {D : FD} (h : runE D = 0) : touchN (runD D) = [] := by
  have hb : (runD D).begun = true := decide_eq_true h
  unfold touchN dirtyN
  rw [if_pos hb]
  rfl
def upX (X : Sc) : List Int := sortI (alS X.S)
theorem mem_upX (hX : WX X) {x : Int} : x ∈ upX X ↔ liveS X.S x = true := by
  unfold upX
  rw [mem_sort]
  exact mem_all hX.ws
theorem all_nod13 (h : WX X) : (alS X.S).Nodup := allL_nod _ _ 256 (Nat.le_refl _) (fun i => (h.ws.ok.2.1 i).1)
theorem up_up (h : WX X) : (upX X).Pairwise (· < ·) := sort_up (all_nod13 h)
theorem sync_whole (hX : SX3 X) (h : EOk X E) {R' : List Rc} (hw : Wk (oX X (takeD X E.D E.since).L) E.R (namesX X E) R') (k : Int) : look k R' = oX X (takeD X E.D E.since).L k := by
  have hK := h.know hX
  have hok : ∀ x, liveS X.S x = true → okM (nodeX X x).pl = true := fun _ => node_ok hX.wx
  have hrg : ∀ x, liveS X.S x = true → Rg (nodeX X x).id ∧ Rg (nodeX X x).par := fun _ => node_rg hX.wx
  refine hw.whole (fun k hk => ?_) k
  have h1 : k ∉ touchN (takeD X E.D E.since) := fun m => hk (mem_namesX.2 (Or.inl m))
  have h2 : k ∉ goL X.S E.since := fun m => hk (mem_namesX.2 (Or.inr m))
  rcases h with ⟨n, rfl⟩ | ⟨X0, a, b, c, d, r⟩
  · by_cases l : liveS X.S k = true
    · exact absurd ((anew_touch hX.wx hK hok hrg rfl k).2 l) h1
    · exact (dead_one hX.wx hK hok (by simpa using l)).1.symm
  · cases l : liveS X.S k with
    | true => rw [c.recs k]; exact (stay_one hX.wx hK hok hrg c (fun x hl hc => know_parts a d hl hc) l h1).1.symm
    | false =>
      rw [(dead_one hX.wx hK hok l).1, c.recs k]
      refine (dead_none ?_).1
      cases q : elF Nd.id E.D.L k with
      | none => rfl
      | some n => exact absurd (hK.gone k l (by rw [q]; rfl)) h2
theorem sync_least (hX : SX3 X) (h : EOk X E) : firstE (eX X (takeD X E.D E.since).L) (namesX X E) = firstE (eX X (takeD X E.D E.since).L) (upX X) := by
  have hK := h.know hX
  have hok : ∀ x, liveS X.S x = true → okM (nodeX X x).pl = true := fun _ => node_ok hX.wx
  have hrg : ∀ x, liveS X.S x = true → Rg (nodeX X x).id ∧ Rg (nodeX X x).par := fun _ => node_rg hX.wx
  have e1 : firstE (eX X (takeD X E.D E.since).L) ((namesX X E).filter (fun x => decide (x ∈ touchN (takeD X E.D E.since)))) = firstE (eX X (takeD X E.D E.since).L) (namesX X E) :=
    first_filter _ _ (fun x hx hf => by
      have hf' : x ∉ touchN (takeD X E.D E.since) := of_decide_eq_false hf
      have hg := (mem_namesX.1 hx).resolve_left hf'
      exact (dead_one hX.wx hK hok (hK.went x hg)).2)
  rw [← e1]
  have hzs : ((namesX X E).filter (fun x => decide (x ∈ touchN (takeD X E.D E.since)))).Pairwise (· < ·) := (namesx_up hX h).sublist List.filter_sublist
  have hz : ∀ x, x ∈ (namesX X E).filter (fun x => decide (x ∈ touchN (takeD X E.D E.since))) ↔ x ∈ touchN (takeD X E.D E.since) := fun x => by
    rw [List.mem_filter, decide_eq_true_eq]
    exact ⟨fun q => q.2, fun q => ⟨mem_namesX.2 (Or.inl q), q⟩⟩
  refine first_sub (up_up hX.wx) hzs (fun x hx => (mem_upX hX.wx).2 (touch_live hX h ((hz x).1 hx))) (fun x hx hn => ?_)
  have hl := (mem_upX hX.wx).1 hx
  have h1 : x ∉ touchN (takeD X E.D E.since) := fun m => hn ((hz x).2 m)
  rcases h with ⟨n, rfl⟩ | ⟨X0, a, b, c, d, r⟩
  · exact absurd ((anew_touch hX.wx hK hok hrg rfl x).2 hl) h1
  · rw [(stay_one hX.wx hK hok hrg c (fun x hl hc => know_parts a d hl hc) hl h1).2]
    exact c.errs x
theorem Synced.good (hX : SX3 X) (h : EOk X E) (h0 : runE (takeD X E.D E.since) = 0) (h1 : firstE (eX X (takeD X E.D E.since).L) (namesX X E) = 0) {R' : List Rc} (hw : Wk (oX X (takeD X E.D E.since).L) E.R (namesX X E) R') : GoodX X (runD (takeD X E.D E.since)) R' := by
  refine ⟨(h.take hX).run, decide_eq_true h0, touch_ran h0, hw.1, sync_whole hX h hw, fun k => ?_⟩
  have hK := h.know hX
  show eX X (takeD X E.D E.since).L k = 0
  cases l : liveS X.S k with
  | true =>
    rw [sync_least hX h] at h1
    exact first_zero.1 h1 k ((mem_upX hX.wx).2 l)
  | false => exact (dead_one hX.wx hK (fun _ => node_ok hX.wx) l).2
theorem look_names {R R' : List Rc} {o : Int → Option Rc} {zs : List Int} (hw : Wk o R zs R') (k : Int) : k ∈ R'.map Rc.id ↔ if k ∈ zs then (o k).isSome = true else k ∈ R.map Rc.id := by
  rw [← look_has, hw.2 k]
  by_cases c : k ∈ zs
  · rw [if_pos c, if_pos c]
  · rw [if_neg c, if_neg c]; exact look_has
theorem Synced.next (hX : SX3 X) (h : EOk X E) (hs : Synced X E zs e E') : EOk (xneS X) E' := by
  rcases hs with ⟨_, _, _, d⟩ | ⟨_, _, _, _, d⟩ | ⟨a, b, _, _, R', d, d2⟩
  · exact Or.inl ⟨_, d⟩
  · exact Or.inl ⟨_, d⟩
  · subst d2
    obtain ⟨s1, s2, s3⟩ := slots_ok (zs := R'.map Rc.id) h.si
    exact Or.inr ⟨X, hX.wx, h.nodes hX, Synced.good hX h a b d, ToldX.start hX.wx, s1, s2⟩
theorem nodes_len (hX : WX X) {L : List Nd} (hn : (L.map Nd.id).Nodup) (hN : NodesX X L) : L.length ≤ 256 := by
  have h1 := pigeon (m := alS X.S) hn (fun x hx => by
    obtain ⟨n, hm, rfl⟩ := List.mem_map.1 hx
    have h2 := hN n.id
    rw [el_of_mem hn hm] at h2
    by_cases c : liveS X.S n.id = true
    · exact (mem_all hX.ws).2 c
    · rw [if_neg c] at h2; cases h2)
  rw [List.length_map] at h1
  exact Nat.le_trans h1 (al_len X.S)
theorem EOk.len (h : EOk X E) : E.D.L.length ≤ 256 := by
  rcases h with ⟨n, rfl⟩ | ⟨X0, a, b, c, d, r⟩
  · exact Nat.zero_le _
  · exact nodes_len a c.dok.nod b
theorem rise_len {R : List Rc} (h : Rise R) (hl : ∀ k ∈ R.map Rc.id, k ∈ alS X.S) : R.length ≤ 256 := by
  have h1 := pigeon (rise_nod h) hl
  rw [List.length_map] at h1
  exact Nat.le_trans h1 (al_len X.S)
theorem look_live (hX : SX3 X) (h : EOk X E) {k : Int} (hk : (oX X (takeD X E.D E.since).L k).isSome = true) : liveS X.S k = true := by
  cases l : liveS X.S k with
  | true => rfl
  | false =>
    rw [(dead_one hX.wx (h.know hX) (fun _ => node_ok hX.wx) l).1] at hk
    cases hk
theorem recs_live (hX : SX3 X) (h : EOk X E) {R' : List Rc} (hw : Wk (oX X (takeD X E.D E.since).L) E.R (namesX X E) R') {k : Int} (hk : k ∈ R'.map Rc.id) : liveS X.S k = true := by
  rw [← look_has, sync_whole hX h hw k] at hk
  exact look_live hX h hk
theorem EOk.rlen (h : EOk X E) : E.R.length ≤ 256 := by
  rcases h with ⟨n, rfl⟩ | ⟨X0, a, b, c, d, r⟩
  · exact Nat.zero_le _
  · refine rise_len (X := X0) c.rise (fun k hk => (mem_all a.ws).2 ?_)
    rw [← look_has, c.recs k] at hk
    cases l : liveS X0.S k with
    | true => rfl
    | false =>
      have := b k
      rw [l] at this
      rw [(dead_none this).1] at hk
      cases hk
def EBd (E : XS) (k : Nat) : Prop := E.D.steps ≤ 300 * k ∧ E.n ≤ 2000 * k
theorem EBd.mono {k k' : Nat} (h : EBd E k) (hk : k ≤ k') : EBd E k' := ⟨Nat.le_trans h.1 (Nat.mul_le_mul_left _ hk), Nat.le_trans h.2 (Nat.mul_le_mul_left _ hk)⟩
theorem go_len (S : St) (since : Int) : (goL S since).length ≤ S.go.length := by
  unfold goL
  rw [sort_len, List.length_map]
  exact List.length_filter_le _ _
theorem take_steps (X : Sc) (D : FD) (since : Int) : (takeD X D since).steps = D.steps := by
  have h1 : ∀ (xs : List Int) (D : FD), (dropS D xs).steps = D.steps := by
    intro xs
    induction xs with
    | nil => exact fun _ => rfl
    | cons x xs ih => exact fun D => (ih (dropFD D x)).trans (by unfold dropFD; split <;> rfl)
  unfold takeD putFD
  split
  · exact h1 _ _
  · exact h1 _ _
theorem namesx_len (hX : SX3 X) (h : EOk X E) : (namesX X E).length ≤ 256 + X.S.go.length := by
  unfold namesX
  rw [sort_len, List.length_append]
  have h1 := touch_len (h.take hX).wf
  have h2 := nodes_len hX.wx (h.take hX).nod (h.nodes hX)
  have h3 := go_len X.S E.since
  omega
theorem Synced.bd (hX : SX3 X) (h : EOk X E) {k : Nat} (hB : BSc X 900) (hb : EBd E k) (hs : Synced X E zs e E') : EBd E' (k + 1) := by
  have h1 := namesx_len hX h
  have h2 := hB.2.1
  have h3 := touch_len (h.take hX).wf
  have h4 := nodes_len hX.wx (h.take hX).nod (h.nodes hX)
  have h5 := take_steps X E.D E.since
  obtain ⟨b1, b2⟩ := hb
  rcases hs with ⟨_, _, _, d⟩ | ⟨_, _, _, _, d⟩ | ⟨_, _, _, _, R', _, d⟩
  · rw [d]; exact ⟨Nat.zero_le _, by show E.n + _ ≤ _; omega⟩
  · rw [d]; exact ⟨Nat.zero_le _, by show E.n + _ ≤ _; omega⟩
  · rw [d]; exact ⟨by show (takeD X E.D E.since).steps + _ ≤ _; omega, by show E.n + _ ≤ _; omega⟩
theorem room_live (hX : WX X) {us : List Int} (hn : us.Nodup) (hu : ∀ u ∈ us, liveS X.S u = true) : us.length ≤ X.S.room := by
  have hinj : (us.map (fun u => ((u % 256).toNat : Int))).Nodup := by
    refine List.pairwise_map.2 (hn.imp_of_mem (fun {a b} ha hb hab e => hab (live_inj (hu a ha) (hu b hb) (by omega))))
  have h1 := pigeon (m := (List.range X.S.room).map (fun (i : Nat) => (i : Int))) hinj (fun x hx => by
    obtain ⟨u, hm, rfl⟩ := List.mem_map.1 hx
    exact List.mem_map.2 ⟨_, List.mem_range.2 (live_low hX.ws (hu u hm)), rfl⟩)
  rw [List.length_map, List.length_map, List.length_range] at h1
  exact h1
theorem Synced.below (hX : SX3 X) (h : EOk X E) {m : Nat} (hr : X.S.room = m) (hb : ∀ p ∈ E.S, p.2 < m) (hs : Synced X E zs e E') : ∀ p ∈ E'.S, p.2 < m := by
  rcases hs with ⟨_, _, _, d⟩ | ⟨_, _, _, _, d⟩ | ⟨_, _, _, _, R', d, d2⟩
  · rw [d]; exact fun p hp => (by cases hp)
  · rw [d]; exact fun p hp => (by cases hp)
  · rw [d2]
    exact slots_below h.si hb (fun us hn hu => by
      rw [← hr]
      exact room_live hX.wx hn (fun u m => recs_live hX h d (hu u m)))
theorem Synced.stay (h : EOk X E) (hs : Synced X E zs e E') (he : e = 0) {y : Int} (h1 : y ∈ E.R.map Rc.id) (h2 : y ∈ E'.R.map Rc.id) : slotD E'.S y = slotD E.S y := by
  rcases hs with ⟨a, _, b, d⟩ | ⟨_, a, _, b, d⟩ | ⟨_, _, _, _, R', d, d2⟩
  · exact absurd (b.symm.trans he) a
  · exact absurd (b.symm.trans he) a
  · subst d2
    exact (slots_ok (zs := R'.map Rc.id) h.si).2.2 y h2 ((h.has y).2 h1)
end
theorem look_iff {L : List Rc} (hn : (L.map Rc.id).Nodup) {k : Int} {r : Rc} : look k L = some r ↔ r ∈ L ∧ r.id = k := by
  refine ⟨look_mem, fun ⟨h1, h2⟩ => ?_⟩
  obtain ⟨y, hy⟩ := look_some h1 h2
  obtain ⟨y1, y2⟩ := look_mem hy
  rw [hy]
  congr 1
  have key : ∀ {L : List Rc}, (L.map Rc.id).Nodup → y ∈ L → r ∈ L → y = r := by
    intro L
    induction L with
    | nil => intro _ h; cases h
    | cons a L ih =>
      intro hn hy hr
      rw [List.map_cons, List.nodup_cons] at hn
      rcases List.mem_cons.1 hy with rfl | hy
      · rcases List.mem_cons.1 hr with rfl | hr
        · rfl
        · exact absurd (List.mem_map.2 ⟨r, hr, by omega⟩) hn.1
      · rcases List.mem_cons.1 hr with e | hr
        · exact absurd (List.mem_map.2 ⟨y, hy, by rw [← e]; omega⟩) hn.1
        · exact ih hn.2 hy hr
  exact key hn y1 h1
theorem look_rev {L : List Rc} (hn : (L.map Rc.id).Nodup) (k : Int) : look k L.reverse = look k L := by
  have hn' : (L.reverse.map Rc.id).Nodup := by rw [List.map_reverse]; exact (List.reverse_perm _).nodup_iff.2 hn
  refine Option.ext fun r => ?_
  rw [look_iff hn', look_iff hn, List.mem_reverse]
section
variable {o : Int → Option Rc} {zs : List Int}
theorem fresh_ids (ho : ∀ x r, o x = some r → r.id = x) : ∀ zs : List Int, (zs.filterMap o).map Rc.id = zs.filter (fun x => (o x).isSome)
  | [] => rfl
  | x :: zs => by
    have ih := fresh_ids ho zs
    cases c : o x with
    | none => rw [List.filterMap_cons_none c, List.filter_cons_of_neg (by rw [c]; exact Bool.false_ne_true), ih]
    | some r => rw [List.filterMap_cons_some c, List.map_cons, List.filter_cons_of_pos (by rw [c]; rfl), ih, ho x r c]
theorem fresh_rise (ho : ∀ x r, o x = some r → r.id = x) (hz : zs.Pairwise (· < ·)) : Rise (zs.filterMap o) := by
  have h1 : ((zs.filterMap o).map Rc.id).Pairwise (· < ·) := by rw [fresh_ids ho]; exact hz.sublist List.filter_sublist
  exact List.pairwise_map.1 h1
theorem mem_fresh (ho : ∀ x r, o x = some r → r.id = x) {k : Int} : k ∈ (zs.filterMap o).map Rc.id ↔ k ∈ zs ∧ (o k).isSome = true := by rw [fresh_ids ho, List.mem_filter]
theorem look_fresh (ho : ∀ x r, o x = some r → r.id = x) (hz : zs.Pairwise (· < ·)) (k : Int) : look k (zs.filterMap o) = if k ∈ zs then o k else none := by
  refine Option.ext fun r => ?_
  rw [look_iff (rise_nod (fresh_rise ho hz)), List.mem_filterMap]
  constructor
  · rintro ⟨⟨x, hx, hr⟩, rfl⟩
    rw [← ho x r hr] at hx hr
    rw [if_pos hx]; exact hr
  · intro h
    by_cases c : k ∈ zs
    · rw [if_pos c] at h; exact ⟨⟨k, c, h⟩, ho k r h⟩
    · rw [if_neg c] at h; cases h
theorem fresh_wk (ho : ∀ x r, o x = some r → r.id = x) (hz : zs.Pairwise (· < ·)) {R R' : List Rc} (hR : Rise R') (hk : ∀ k, look k R' = (look k (zs.filterMap o).reverse).or (look k (remL R zs))) : Wk o R zs R' :=
  ⟨hR, fun k => by
    rw [hk k, look_rev (rise_nod (fresh_rise ho hz)), look_fresh ho hz, look_rem]
    by_cases c : k ∈ zs
    · rw [if_pos c, if_pos c, if_pos c, Option.or_none]
    · rw [if_neg c, if_neg c, if_neg c, Option.none_or]⟩
theorem fm_take {α β : Type} (f : α → Option β) {l : List α} {j : Nat} {x : α} (h : l[j]? = some x) : (l.take (j + 1)).filterMap f = (l.take j).filterMap f ++ (f x).toList := by
  rw [List.take_add_one, h, List.filterMap_append]
  cases c : f x <;> simp [c]
end
def slM (S : SlR) (x : Int) : Option Int := if 0 ≤ slotD S x then some (slotD S x) else none
theorem slM_nil : slM [] = fun _ => none := rfl
theorem give_skip (p : Int → Bool) : ∀ (zs : List Int) {S : SlR}, SI S → (∀ x ∈ zs, p x = false → 0 ≤ slotD S x) → zs.foldl give1 S = (zs.filter p).foldl give1 S
  | [], _, _, _ => rfl
  | x :: zs, S, hS, h => by
    obtain ⟨s1, s2, _, _⟩ := give_step hS x
    by_cases c : p x = true
    · rw [List.filter_cons_of_pos c]
      exact give_skip p zs s1 (fun y hy hp => by rw [s2 y (h y (List.mem_cons_of_mem _ hy) hp)]; exact h y (List.mem_cons_of_mem _ hy) hp)
    · rw [List.filter_cons_of_neg c]
      have e : give1 S x = S := by unfold give1; rw [if_pos (h x List.mem_cons_self (by simpa using c))]
      show zs.foldl give1 (give1 S x) = _
      rw [e]
      exact give_skip p zs hS (fun y hy hp => h y (List.mem_cons_of_mem _ hy) hp)
section
variable {R R' fr : List Rc} {zs : List Int} {S : SlR}
theorem fresh_all (hS : SI S) (has : ∀ y, 0 ≤ slotD S y ↔ y ∈ R.map Rc.id) (hR' : Rise R') (hfr : Rise fr) (hk : ∀ k, k ∈ R'.map Rc.id ↔ if k ∈ zs then k ∈ fr.map Rc.id else k ∈ R.map Rc.id) (hsub : ∀ k ∈ fr.map Rc.id, k ∈ zs) :
    slotsD (R'.map Rc.id) S = (fr.map Rc.id).foldl give1 (keptD (R'.map Rc.id) S) := by
  unfold slotsD
  have hin : ∀ x ∈ fr.map Rc.id, x ∈ R'.map Rc.id := fun x hx => (hk x).2 (by rw [if_pos (hsub x hx)]; exact hx)
  rw [give_skip (fun x => decide (x ∈ fr.map Rc.id)) (R'.map Rc.id) (S := keptD (R'.map Rc.id) S) (hS.filter _) (fun x hx hp => ?_), ← up_sub (rise_names hR') (rise_names hfr) hin]
  have hp' : x ∉ fr.map Rc.id := of_decide_eq_false hp
  have h1 := (hk x).1 hx
  by_cases c : x ∈ zs
  · rw [if_pos c] at h1; exact absurd h1 hp'
  · rw [if_neg c] at h1
    show 0 ≤ slotD (keptD (R'.map Rc.id) S) x
    rw [kept_slot hS, if_pos hx]
    exact (has x).2 h1
def delM (S : SlR) (zs : List Int) (fi : List Int) (x : Int) : Option Int := if x ∈ zs ∧ x ∉ fi then none else slM S x
theorem del_all (hS : SI S) (has : ∀ y, 0 ≤ slotD S y ↔ y ∈ R.map Rc.id) (hk : ∀ k, k ∈ R'.map Rc.id ↔ if k ∈ zs then k ∈ fr.map Rc.id else k ∈ R.map Rc.id) : delM S zs (fr.map Rc.id) = slM (keptD (R'.map Rc.id) S) := funext fun x => by
  unfold delM slM
  rw [kept_slot hS]
  have h1 := hk x
  by_cases c : x ∈ zs
  · rw [if_pos c] at h1
    by_cases d : x ∈ fr.map Rc.id
    · rw [if_neg (fun q => q.2 d), if_pos (h1.2 d)]
    · rw [if_pos ⟨c, d⟩, if_neg (fun q => d (h1.1 q)), if_neg (by omega)]
  · rw [if_neg c] at h1
    rw [if_neg (fun q => c q.1)]
    by_cases d : x ∈ R.map Rc.id
    · rw [if_pos (h1.2 d)]
    · rw [if_neg (fun q => d (h1.1 q)), if_neg (fun q => d ((has x).1 q)), if_neg (by omega)]
theorem del_step {fi : List Int} {j : Nat} {x : Int} (h : zs[j]? = some x) : delM S (zs.take (j + 1)) fi = if x ∈ fi then delM S (zs.take j) fi else fun y => if y = x then none else delM S (zs.take j) fi y := by
  have hm : ∀ y, y ∈ zs.take (j + 1) ↔ y ∈ zs.take j ∨ y = x := fun y => by
    rw [List.take_add_one, h, List.mem_append]
    simp
  by_cases c : x ∈ fi
  · rw [if_pos c]
    funext y
    unfold delM
    by_cases e : y ∈ zs.take j ∧ y ∉ fi
    · rw [if_pos e, if_pos ⟨(hm y).2 (Or.inl e.1), e.2⟩]
    · rw [if_neg e, if_neg (fun q => e ⟨((hm y).1 q.1).resolve_right (fun z => q.2 (z ▸ c)), q.2⟩)]
  · rw [if_neg c]
    funext y
    unfold delM
    by_cases d : y = x
    · subst d
      rw [if_pos rfl, if_pos ⟨(hm y).2 (Or.inr rfl), c⟩]
    · rw [if_neg d]
      by_cases e : y ∈ zs.take j ∧ y ∉ fi
      · rw [if_pos e, if_pos ⟨(hm y).2 (Or.inl e.1), e.2⟩]
      · rw [if_neg e, if_neg (fun q => e ⟨((hm y).1 q.1).resolve_right d, q.2⟩)]
end
theorem slM_some {S : SlR} (hS : SI S) {x n : Int} : slM S x = some n ↔ (x, n) ∈ S := by
  unfold slM
  constructor
  · intro h
    by_cases c : 0 ≤ slotD S x
    · rw [if_pos c] at h
      injection h with h
      rw [← h]; exact slot_mem hS c
    · rw [if_neg c] at h; cases h
  · intro h
    have e := slot_in hS h
    have h0 : 0 ≤ slotD S x := (slot_has hS).2 (List.mem_map.2 ⟨_, h, rfl⟩)
    rw [if_pos h0, e]
structure LInv (K S : SlR) (l : Nat) : Prop where
  si : SI S
  low : ∀ m, m < l → usedD S (m : Nat) = true
  high : ∀ n : Nat, l ≤ n → usedD S (n : Nat) = usedD K (n : Nat)
theorem LInv.start {K : SlR} (h : SI K) : LInv K K 0 := ⟨h, fun m hm => absurd hm (Nat.not_lt_zero m), fun _ _ => rfl⟩
theorem give_stay {S : SlR} {x : Int} (hx : 0 ≤ slotD S x) : give1 S x = S := by unfold give1; rw [if_pos hx]
theorem LInv.bound {K S : SlR} {l : Nat} (h : LInv K S l) : l ≤ leastD S ∧ usedD K (leastD S : Nat) = false ∧ leastD S ≤ S.length := by
  have h1 := (least_step S h.low).2
  exact ⟨h1, by rw [← h.high _ h1]; exact (least_free S).1, (least_free S).2⟩
theorem LInv.give {K S : SlR} {l n : Nat} (h : LInv K S l) {x : Int} (hx : ¬ 0 ≤ slotD S x) (h1 : l ≤ n) (h2 : ∀ m, l ≤ m → m < n → usedD K (m : Nat) = true) (h3 : usedD K (n : Nat) = false) : give1 S x = S ++ [(x, (n : Int))] ∧ LInv K (give1 S x) (n + 1) := by
  have hu : ∀ m, m < n → usedD S (m : Nat) = true := fun m hm => by
    by_cases c : m < l
    · exact h.low m c
    · rw [h.high m (by omega)]; exact h2 m (by omega) hm
  have e : leastD S = n := (least_step S hu).1 (by rw [h.high n h1]; exact h3)
  have eg : give1 S x = S ++ [(x, (n : Int))] := by unfold give1; rw [if_neg hx, e]
  have hus : ∀ m : Nat, usedD (S ++ [(x, (n : Int))]) (m : Nat) = (usedD S (m : Nat) || decide (n = m)) := fun m => by
    unfold usedD
    rw [List.any_append]
    have : ([(x, (n : Int))].any fun p => p.2 == (m : Int)) = decide (n = m) := by
      by_cases c : n = m
      · subst c; simp
      · rw [decide_eq_false c]; simp; omega
    rw [this]
  refine ⟨eg, (give_step h.si x).1, fun m hm => ?_, fun k hk => ?_⟩
  · rw [eg, hus]
    by_cases c : m < n
    · rw [hu m c]; rfl
    · rw [decide_eq_true (by omega), Bool.or_true]
  · rw [eg, hus, h.high k (by omega), decide_eq_false (by omega), Bool.or_false]
theorem slM_give {S : SlR} (hS : SI S) {x : Int} {n : Nat} (hx : ¬ 0 ≤ slotD S x) : slM (S ++ [(x, (n : Int))]) = fun y => if y = x then some (n : Int) else slM S y := funext fun y => by
  unfold slM
  rw [slot_app]
  by_cases e : y = x
  · subst e
    have hn : ¬ y ∈ S.map Prod.fst := fun q => hx ((slot_has hS).2 q)
    have h1 : slotD [(y, (n : Int))] y = n := by unfold slotD; simp
    rw [if_neg hn, h1, if_pos (by omega), if_pos rfl]
  · rw [if_neg e]
    by_cases c : y ∈ S.map Prod.fst
    · rw [if_pos c]
    · have h1 : slotD [(x, (n : Int))] y = -1 := by
        refine slot_none ?_
        simpa using e
      rw [if_neg c, h1, slot_none c]
theorem zparts {S : St} (hW : WS S) {x : Int} (h : liveS S x = false) : getP S x = zT := by
  unfold getP
  rw [live_in hW] at h
  unfold getB at h
  cases c : atS S x with
  | none => rfl
  | some i => rw [c] at h; cases h
theorem zt_of (M : Nat → Int) (s : Bool) : oeR M zT s = 0 ∧ obR M zT s = false := by
  have h : drawnT zT = false := by decide
  unfold oeR obR
  rw [h, Bool.and_false]
  exact ⟨rfl, rfl⟩
def stO (D : FD) (x : Int) : Stt := (stateN D x).getD zSt
theorem of_one13 {X : Sc} {D : FD} (hX : WX X) (hD : DOk D) (hN : NodesX X D.L) (h0 : runE D = 0) (x : Int) :
    oeR (stO (runD D) x).wo (getP X.S x) (stO (runD D) x).sh = eX X D.L x ∧ (if obR (stO (runD D) x).wo (getP X.S x) (stO (runD D) x).sh = true then some (recT x (getP X.S x) (stO (runD D) x).wo) else none) = oX X D.L x := by
  cases l : liveS X.S x with
  | true =>
    have hx : (elF Nd.id (runD D).L x).isSome = true := by
      show (elF Nd.id D.L x).isSome = true
      rw [hN x, if_pos l]; rfl
    have hb : (runD D).begun = true := decide_eq_true h0
    have ht : x ∉ touchN (runD D) := by rw [touch_ran h0]; exact List.not_mem_nil
    obtain ⟨s, f1, f2⟩ := hD.run.st hb x hx ht
    have hs : stateN (runD D) x = some s := by
      unfold stateN
      rw [if_pos ⟨hb, ht, hx⟩]
      exact f2
    have f1' : fate D.L x = (some s, 0) := f1
    unfold stO oX eX
    rw [hs, f1']
    exact ⟨rfl, rfl⟩
  | false =>
    have h1 : elF Nd.id D.L x = none := by rw [hN x, if_neg (by rw [l]; exact Bool.false_ne_true)]
    obtain ⟨d1, d2⟩ := dead_none (X := X) h1
    obtain ⟨z1, z2⟩ := zt_of (stO (runD D) x).wo (stO (runD D) x).sh
    rw [zparts hX.ws l, z1, z2, d1, d2]
    exact ⟨rfl, rfl⟩
theorem in_law : Go.Maps.Keyed Tryz.prog 3 := Go.Maps.int_keyed Tryz.underlying3
theorem in_key {x : Int} (h : Rg x) : keyOf Tryz.prog 3 (.int .i64 x) = some (.int .i64 x) := by
  refine Go.Maps.keyOf_int_mk Tryz.underlying3 ?_
  show (decide (IntKind.i64.min ≤ x) && decide (x ≤ IntKind.i64.max)) = true
  rw [decide_eq_true (show IntKind.i64.min ≤ x from h.1), decide_eq_true (show x ≤ IntKind.i64.max from h.2)]
  rfl
structure MKi (α : Type) where
  t : TypeId
  e : TypeId
  V : Option α → Value
  E : Option α → DataW Unit
  R : Value → Option (DataW Unit × List MemPlace)
  ht : Tryz.prog.underlying t = some (.map 3 e)
  hz : ∀ w, (zeroValue e).run Tryz.prog w = .ok (V none) w
  rv : ∀ o, R (V o) = some (E o, [])
  inv : ∀ v o ps, R v = some (E o, ps) → v = V o
def MFi {α : Type} (k : MKi α) (w : World) (mb : Nat) (m : Int → Option α) : Prop := ∃ D : DataW Unit, w.ownsMap Tryz.prog 3 k.R mb 100000 D ∧ (∀ x, Rg x → D.atKey (.int .i64 x) (k.E none) = k.E (m x) ∧ Maps.has D (.int .i64 x) = (m x).isSome) ∧ ∀ x : Int, Maps.has D (.int .i64 x) = true → Rg x
theorem own_small13 {R : Value → Option (DataW Unit × List MemPlace)} {w : World} {mb n : Nat} {D : DataW Unit} (hw : w.ownsMap Tryz.prog 3 R mb n D) (K : List Int) (hK : ∀ x : Int, Maps.has D (.int .i64 x) = true → x ∈ K) : Maps.size D ≤ K.length := by
  have hp : (ddI (K.filter fun x => Maps.has D (.int .i64 x))).Perm (intKeys D) := CollectedI.perm (left := fun _ => false) ⟨nod_ddI _, fun x => by
    rw [mem_ddI, List.mem_filter]
    exact ⟨fun h => ⟨h.2, rfl⟩, fun h => ⟨hK x h.1, h.1⟩⟩⟩ hw in_law Tryz.underlying3 (fun _ => rfl)
  have h1 := hp.length_eq
  have h2 := len_ddI (K.filter fun x => Maps.has D (.int .i64 x))
  have h3 := List.length_filter_le (fun x => Maps.has D (.int .i64 x)) K
  obtain ⟨es, rfl, _⟩ := hw.entries in_law
  unfold intKeys at h1
  rw [List.length_map] at h1
  rw [Maps.size_eq]
  omega
theorem own_size13 {R : Value → Option (DataW Unit × List MemPlace)} {w : World} {mb n m : Nat} {D : DataW Unit} (hw : w.ownsMap Tryz.prog 3 R mb n D) (h : Maps.size D ≤ m) : w.ownsMap Tryz.prog 3 R mb m D := by
  obtain ⟨es, clock, hb, F, hs, hD⟩ := hw
  refine ⟨es, clock, hb, F, ?_, hD⟩
  have e1 : Maps.size D = es.size := by rw [hD]; simp [Maps.size, length_sorted]
  omega
section
variable {α : Type} {k : MKi α} {w w' : World} {mb : Nat} {m : Int → Option α} {x : Int}
theorem MFi.lt (h : MFi k w mb m) : mb < w.heap.size := by
  obtain ⟨D, hD, _⟩ := h
  exact hD.lt
theorem MFi.same (h : MFi k w mb m) (he : w'.heap[mb]? = w.heap[mb]?) : MFi k w' mb m := by
  obtain ⟨D, ⟨es, clock, hb, F, hs, hD⟩, hk⟩ := h
  exact ⟨D, ⟨es, clock, he.trans hb, F, hs, hD⟩, hk⟩
theorem MFi.keep (h : MFi k w mb m) (hb : Below w.heap.size w w') : MFi k w' mb m := h.same (hb.block mb h.lt)
theorem MFi.new (k : MKi α) (w : World) : MFi k (w.alloc (.map #[] 0)) w.heap.size (fun _ => none) :=
  ⟨.map [], (World.ownsMap_made w _ _ _).mono (by omega), fun _ _ => ⟨rfl, rfl⟩, fun x h => by cases h⟩
theorem MFi.look (h : MFi k w mb m) (hx : Rg x) : (Instr.lookup k.t (.map (some mb)) (.int .i64 x) true).run Tryz.prog w = .ok (.tuple #[k.V (m x), .bool (m x).isSome]) w := by
  obtain ⟨D, hD, hk, _⟩ := h
  obtain ⟨v, ps, hrun, hv⟩ := hD.look_ok in_law k.ht (k.hz w) (k.rv none) (in_key hx)
  rw [(hk x hx).1] at hv
  rw [hrun, k.inv v _ _ hv, (hk x hx).2]
theorem MFi.put (h : MFi k w mb m) (hx : Rg x) (a : α) (K : List Int) (hK : ∀ y, (upm m x (some a) y).isSome = true → y ∈ K) (hKl : K.length ≤ 100000) :
    ∃ w', (Instr.mapUpdate k.t (.map (some mb)) (.int .i64 x) (k.V (some a))).run Tryz.prog w = .ok () w' ∧ MFi k w' mb (upm m x (some a)) ∧ w.grownBy w' (some mb) := by
  obtain ⟨D, hD, hk, hr⟩ := h
  obtain ⟨w', hrun, h1, h2⟩ := hD.update in_law k.ht (by unfold maxLen; omega) (in_key hx) (k.rv (some a))
  have hm : Maps.IsMap D := hD.isMap
  have hL : WideAt.IsKeyLit (.int .i64 x) := trivial
  have hne : ∀ {y : Int}, y ≠ x → (Lit.int .i64 y) ≠ .int .i64 x := fun hy e => by injection e with _ e; exact hy e
  have hr' : ∀ y : Int, Maps.has (D.put (.int .i64 x) (k.E (some a))) (.int .i64 y) = true → Rg y := fun y hy => by
    by_cases c : y = x
    · rw [c]; exact hx
    · rw [Maps.has_put_other (hne c)] at hy
      exact hr y hy
  have hk' : ∀ y, Rg y → (D.put (.int .i64 x) (k.E (some a))).atKey (.int .i64 y) (k.E none) = k.E (upm m x (some a) y) ∧ Maps.has (D.put (.int .i64 x) (k.E (some a))) (.int .i64 y) = (upm m x (some a) y).isSome := fun y hy => by
    unfold upm
    by_cases c : y = x
    · subst c
      rw [if_pos rfl, Maps.atKey_put_same hm hL, Maps.has_put_same hm hL]
      exact ⟨rfl, rfl⟩
    · rw [if_neg c, Maps.atKey_put_other (hne c), Maps.has_put_other (hne c)]
      exact hk y hy
  have hs := own_small13 h1 K (fun y hy => hK y (by rw [← (hk' y (hr' y hy)).2]; exact hy))
  exact ⟨w', hrun, ⟨_, own_size13 h1 (Nat.le_trans hs hKl), hk', hr'⟩, h2⟩
end
def mkAi {α : Type} (t e : TypeId) (V : Option α → Value) (ht : Tryz.prog.underlying t = some (.map 3 e)) (hz : ∀ w, (zeroValue e).run Tryz.prog w = .ok (V none) w) (hV : ∀ o, ∃ l : List Value, V o = .agg l.toArray ∧ ∀ u ∈ l, simp1 u) : MKi α where
  t := t
  e := e
  V := V
  E o := encA (V o)
  R v := some (encA v, [])
  ht := ht
  hz := hz
  rv o := rfl
  inv v o ps h := by
    simp at h
    obtain ⟨l, hl, hs⟩ := hV o
    rw [hl] at h ⊢
    exact encA_inj hs h.1
def kI : MKi Unit := mkAi 237 220 (fun _ => .agg #[]) Tryz.underlying237 zv_unit (fun _ => ⟨[], rfl, fun u h => by cases h⟩)
theorem zv_int13 (w : World) : (zeroValue 3).run Tryz.prog w = .ok (.int .i64 0) w := by kernel_rfl
def sR13 : Value → Option (DataW Unit × List MemPlace)
  | .int .i64 y => some (.lit (.int .i64 y), [])
  | _ => none
def sK13 : MK Int where
  t := 106
  e := 3
  V o := .int .i64 (o.getD 0)
  E o := .lit (.int .i64 (o.getD 0))
  R := sR13
  ht := Tryz.underlying106
  hz := zv_int13
  rv o := rfl
  inv v o ps h := by
    unfold sR13 at h
    split at h
    · simp at h
      rw [h.1]
    · cases h
def MRg {α : Type} (k : MK α) (w : World) (mb r : Nat) (m : Int → Option α) (left : Lit → Bool) (cnt : Nat) : Prop := ∃ D : DataW Unit, w.ranges Tryz.prog 81 k.R mb r 100000 D left cnt ∧ (∀ x, Rg x → D.atKey (.int .i64 x) (k.E none) = k.E (m x) ∧ Maps.has D (.int .i64 x) = (m x).isSome) ∧ ∀ x : Int, Maps.has D (.int .i64 x) = true → Rg x
section
variable {w w' : World} {mb r : Nat} {m : Int → Option Int} {left : Lit → Bool} {cnt : Nat}
theorem MF.range13 (h : MF sK13 w mb m) : ∃ w' left cnt, (Instr.range 106 (.map (some mb))).run Tryz.prog w = .ok (.pointer (some ⟨w.heap.size, 0, none⟩)) w' ∧ MRg sK13 w' mb w.heap.size m left cnt ∧ (∀ x, left (.int .i64 x) = true → (m x).isSome = true ∧ Rg x) ∧ (∀ x, Rg x → left (.int .i64 x) = (m x).isSome) ∧ w.grownBy w' none ∧ w'.heap.size = w.heap.size + 1 := by
  obtain ⟨D, hD, hk, hr⟩ := h
  obtain ⟨w', h1, h2, h3, h4⟩ := hD.range id_law (t := 106) sK13.ht
  exact ⟨w', _, _, h1, ⟨D, h2, hk, hr⟩, fun x hx => ⟨by rw [← (hk x (hr x hx)).2]; exact hx, hr x hx⟩, fun x hx => (hk x hx).2, h3, h4⟩
theorem MRg.owns (h : MRg sK13 w mb r m left cnt) : MF sK13 w mb m := by
  obtain ⟨D, hD, hk, hr⟩ := h
  exact ⟨D, hD.owns, hk, hr⟩
theorem MRg.left_eq (h : MRg sK13 w mb r m left cnt) : w.rangeLeft mb r = cnt := by
  obtain ⟨D, hD, hk, hr⟩ := h
  exact hD.left_eq
theorem MRg.ne (h : MRg sK13 w mb r m left cnt) : r ≠ mb := by
  obtain ⟨D, hD, hk, hr⟩ := h
  exact hD.ne
theorem MRg.lt (h : MRg sK13 w mb r m left cnt) : r < w.heap.size := by
  obtain ⟨D, hD, hk, hr⟩ := h
  exact hD.lt
theorem MRg.kept {row : Option Nat} (h : MRg sK13 w mb r m left cnt) (hg : w.grownBy w' row) (hb' : some mb ≠ row) (hr' : some r ≠ row) : MRg sK13 w' mb r m left cnt := by
  obtain ⟨D, hD, hk, hr⟩ := h
  exact ⟨D, hD.kept hg hb' hr', hk, hr⟩
theorem MRg.next (h : MRg sK13 w mb r m left cnt) (hl : ∀ x, left (.int .i64 x) = true → (m x).isSome = true ∧ Rg x) :
    ((∀ x, left (.int .i64 x) = false) ∧ ∀ ty, (Instr.next (.pointer (some ⟨r, 0, none⟩)) false ty).run Tryz.prog w = .ok (.tuple #[.bool false]) w) ∨
    ∃ x s w' cnt', m x = some s ∧ left (.int .i64 x) = true ∧ (∀ ty, (Instr.next (.pointer (some ⟨r, 0, none⟩)) false ty).run Tryz.prog w = .ok (.tuple #[.bool true, .int .i64 x, .int .i64 s]) w') ∧
      MRg sK13 w' mb r m (fun z => left z && !z.sameKey (.int .i64 x)) cnt' ∧ cnt' < cnt ∧ w.grownBy w' (some r) ∧ w'.heap.size = w.heap.size ∧ (Instr.entry (.pointer (some ⟨r, 0, none⟩))).run Tryz.prog w' = .ok (.tuple #[.int .i64 x, .int .i64 s]) w' := by
  obtain ⟨D, hD, hk, hr⟩ := h
  rcases hD.next id_law 3 with ⟨h0, h1, h2⟩ | ⟨key, v, kl, y, w', cnt', h1, h2, h3, h4, h5, h6, h7, h8, h9, h10⟩
  · exact Or.inl ⟨fun x => h1 _, fun ty => h2⟩
  · obtain ⟨x, rfl, rfl, _⟩ := Maps.keyOf_int_inv Tryz.underlying81 h1
    obtain ⟨hs, hrg⟩ := hl x h2
    obtain ⟨s, hs⟩ := Option.isSome_iff_exists.1 hs
    have hv : v = .int .i64 s := by
      have e := (hk x hrg).1
      rw [h4, hs] at e
      have e2 : sK13.R v = some (sK13.E (some s), y.2) := by rw [h3, ← e]
      exact sK13.inv v _ _ e2
    subst hv
    exact Or.inr ⟨x, s, w', cnt', hs, h2, fun ty => h5, ⟨D, h6, hk, hr⟩, h7, h8, h9, h10⟩
end
theorem same_key13 {x y : Int} : (Lit.int .i64 x).sameKey (.int .i64 y) = decide (x = y) := by
  by_cases e : x = y
  · subst e
    rw [decide_eq_true rfl]
    exact WideAt.sameKey_self trivial
  · rw [decide_eq_false e]
    cases h : (Lit.int .i64 x).sameKey (.int .i64 y) with
    | false => rfl
    | true => exact absurd (by have := WideAt.sameKey_eq h; injection this) e

structure FWE (FB : World → Nat → (Nat → Prop) → FD → Prop) : Prop where
  keep_ : ∀ w w' g F D, FB w g F D → (∀ b, F b → w'.heap[b]? = w.heap[b]?) → FB w' g F D
  inb : ∀ w g F D, FB w g F D → ∀ b, F b → b < w.heap.size
  new : ∀ w : World, Calls Tryz.prog 67 #[] w fun e w' => ∃ g F, e = .returned (.pointer (some ⟨g, 0, none⟩)) ∧ FB w' g F FD0 ∧ (∀ b, F b → w.heap.size ≤ b) ∧ Below w.heap.size w w'
  put : ∀ (w : World) g F D (a : Option Addr) (n cap : Nat) (l : List Nd), DOk D → D.L.length ≤ 300 → FB w g F D → n ≤ 300 → NRow w a n l → (∀ m ∈ l, Rg m.id ∧ Rg m.par) → Calls Tryz.prog 70 #[.pointer (some ⟨g, 0, none⟩), .slice a n cap] w fun e w' => e = .returned (.int .i64 (putFE D l)) ∧ ChX FB w w' g F (putFD D l)
  drop : ∀ (w : World) g F D (a : Option Addr) (n cap : Nat) (xs : List Int), DOk D → D.L.length ≤ 300 → FB w g F D → n ≤ 1000 → Row w a n xs → Aw F a n → Rgs xs → Calls Tryz.prog 69 #[.pointer (some ⟨g, 0, none⟩), .slice a n cap] w fun e w' => e = .returned (.int .i64 (dropN D xs : Nat)) ∧ ChX FB w w' g F (dropS D xs)
  run : ∀ (w : World) g F D, DOk D → D.L.length ≤ 300 → D.steps ≤ 1000000 → FB w g F D → Calls Tryz.prog 72 #[.pointer (some ⟨g, 0, none⟩)] w fun e w' => ∃ v, e = .returned (.tuple #[v, .int .i64 (runE D)]) ∧ LRes w w' (touchN D) v ∧ ChR FB w w' g F (runD D)
  state : ∀ (w : World) g F D (x : Int), DOk D → D.L.length ≤ 300 → FB w g F D → Rg x → Calls Tryz.prog 137 #[.pointer (some ⟨g, 0, none⟩), .int .i64 x] w fun e w' => ∃ Y, e = .returned (.tuple #[.agg (List.toArray Y), .bool (stateN D x).isSome]) ∧ Y = cFs ((stateN D x).getD zSt) ∧ Below w.heap.size w w'
section
variable {FB : World → Nat → (Nat → Prop) → FD → Prop}
theorem FWE.keep (h : FWE FB) {w w' : World} {g : Nat} {F : Nat → Prop} {D : FD} (hs : FB w g F D) (hb : Below w.heap.size w w') : FB w' g F D := h.keep_ w w' g F D hs (fun b hf => hb.block b (h.inb w g F D hs b hf))
end
def SyR (EB : World → Nat → (Nat → Prop) → XS → Prop) (XB : World → Nat → (Nat → Prop) → Sc → Prop) (w w' : World) (g gs : Nat) (F Fs : Nat → Prop) (E : XS) (X : Sc) : Prop :=
  ∃ F' Fs', EB w' g F' E ∧ XB w' gs Fs' X ∧ Fr w w' (fun b => F b ∨ Fs b) ∧ (∀ b, F' b → F b ∨ w.heap.size ≤ b) ∧ (∀ b, Fs' b → Fs b ∨ w.heap.size ≤ b) ∧ ∀ b, F' b → ¬ Fs' b
structure EC (EB : World → Nat → (Nat → Prop) → XS → Prop) (XB : World → Nat → (Nat → Prop) → Sc → Prop) : Prop where
  kb : KB EB
  new : ∀ w : World, Calls Tryz.prog 10 #[] w fun e w' => ∃ g F, e = .returned (.pointer (some ⟨g, 0, none⟩)) ∧ EB w' g F XS0 ∧ (∀ b, F b → w.heap.size ≤ b) ∧ Below w.heap.size w w'
  forget : ∀ (w : World) g F E, EB w g F E → Calls Tryz.prog 11 #[.pointer (some ⟨g, 0, none⟩)] w fun e w' => e = .returned (.tuple #[]) ∧ ChB EB w w' g F (XSn E.n)
  records : ∀ (w : World) g F E, EB w g F E → E.R.length ≤ 2000 → Calls Tryz.prog 20 #[.pointer (some ⟨g, 0, none⟩)] w fun e w' => ∃ v, e = .returned v ∧ OwnX 12 cRc 92 w' w.heap.size v E.R ∧ Below w.heap.size w w'
  slot : ∀ (w : World) g F E (x : Int), EB w g F E → SI E.S → Rg x → Calls Tryz.prog 22 #[.pointer (some ⟨g, 0, none⟩), .int .i64 x] w fun e w' => e = .returned (.int .i64 (slotD E.S x)) ∧ Below w.heap.size w w'
  steps : ∀ (w : World) g F E, EB w g F E → Calls Tryz.prog 21 #[.pointer (some ⟨g, 0, none⟩)] w fun e w' => e = .returned (.int .i64 E.n) ∧ Below w.heap.size w w'
  sync : ∀ (w : World) g F E gs Fs X, EB w g F E → XB w gs Fs X → (∀ b, F b → ¬ Fs b) → SX3 X → EOk X E → BSc X 250 → EBd E 100 → (∀ p ∈ E.S, p.2 < 256) → X.S.room ≤ 19 → Calls Tryz.prog 13 #[.pointer (some ⟨g, 0, none⟩), .pointer (some ⟨gs, 0, none⟩)] w fun e w' => ∃ v zs er E', e = .returned (.tuple #[v, .int .i64 er]) ∧ LRes w w' zs v ∧ Synced X E zs er E' ∧ SyR EB XB w w' g gs F Fs E' (xneS X)
structure EN : Prop where
  forget : ∀ w : World, Calls Tryz.prog 11 #[.pointer none] w fun e w' => e = .returned (.tuple #[]) ∧ w = w'
  sync : ∀ (w : World) (s : Value), Calls Tryz.prog 13 #[.pointer none, s] w fun e w' => e = .returned (.tuple #[.slice none 0 0, .int .i64 1]) ∧ w = w'
  nos : ∀ (w : World) (g : Nat), Calls Tryz.prog 13 #[.pointer (some ⟨g, 0, none⟩), .pointer none] w fun e w' => e = .returned (.tuple #[.slice none 0 0, .int .i64 1]) ∧ w = w'
  records : ∀ w : World, Calls Tryz.prog 20 #[.pointer none] w fun e w' => e = .returned (.slice none 0 0) ∧ w = w'
  slot : ∀ (w : World) (x : Int), Calls Tryz.prog 22 #[.pointer none, .int .i64 x] w fun e w' => e = .returned (.int .i64 (-1)) ∧ w = w'
  steps : ∀ w : World, Calls Tryz.prog 21 #[.pointer none] w fun e w' => e = .returned (.int .i64 0) ∧ w = w'
structure LEx (FB : World → Nat → (Nat → Prop) → FD → Prop) (w : World) (g gf : Nat) (Ff : Nat → Prop) (vr : Value) (mb : Nat) (E : XS) : Prop where
  blk : Blk w g 111 #[.pointer (some ⟨gf, 0, none⟩), vr, .map (some mb), .int .i64 E.since, .int .i64 E.n]
  fl : FB w gf Ff E.D
  rc : OwnX 12 cRc 92 w 0 vr E.R
  mp : MF sK13 w mb (slM E.S)
  gF : ¬ Ff g
  mF : ¬ Ff mb
  mg : mb ≠ g
  rF : ∀ b, vr.ownBlock = some b → b ≠ g ∧ b ≠ mb ∧ ¬ Ff b
def footE (g : Nat) (Ff : Nat → Prop) (vr : Value) (mb : Nat) (b : Nat) : Prop := b = g ∨ Ff b ∨ vr.ownBlock = some b ∨ b = mb
def LEB (FB : World → Nat → (Nat → Prop) → FD → Prop) (w : World) (g : Nat) (F : Nat → Prop) (E : XS) : Prop := ∃ gf Ff vr mb, LEx FB w g gf Ff vr mb E ∧ ∀ b, F b ↔ footE g Ff vr mb b
section
variable {FB : World → Nat → (Nat → Prop) → FD → Prop} {w w' : World} {g gf mb : Nat} {F Ff : Nat → Prop} {vr : Value} {E : XS}
theorem LEx.same (hC : FWE FB) (h : LEx FB w g gf Ff vr mb E) (he : ∀ b, footE g Ff vr mb b → w'.heap[b]? = w.heap[b]?) : LEx FB w' g gf Ff vr mb E :=
  ⟨h.blk.same (he g (Or.inl rfl)), hC.keep_ _ _ _ _ _ h.fl (fun b c => he b (Or.inr (Or.inl c))), h.rc.same (fun b c => he b (Or.inr (Or.inr (Or.inl c)))), h.mp.same (he mb (Or.inr (Or.inr (Or.inr rfl)))), h.gF, h.mF, h.mg, h.rF⟩
theorem LEx.inb (hC : FWE FB) (h : LEx FB w g gf Ff vr mb E) : ∀ b, footE g Ff vr mb b → b < w.heap.size := by
  rintro b (c | c | c | c)
  · rw [c]; exact h.blk.lt
  · exact hC.inb _ _ _ _ h.fl b c
  · exact (h.rc.lt b c).2
  · rw [c]; exact h.mp.lt
theorem LEx.keep (hC : FWE FB) (h : LEx FB w g gf Ff vr mb E) (hb : Below w.heap.size w w') : LEx FB w' g gf Ff vr mb E := h.same hC (fun b c => hb.block b (h.inb hC b c))
set_option linter.unusedVariables false in
theorem kb_leb (hC : FWE FB) : KB (LEB FB) := ⟨fun _ _ _ _ _ ⟨gf, Ff, vr, mb, h, hF⟩ he => ⟨gf, Ff, vr, mb, h.same hC (fun b c => he b ((hF b).2 c)), hF⟩, fun _ _ _ _ ⟨gf, Ff, vr, mb, h, hF⟩ b c => h.inb hC b ((hF b).1 c)⟩
end
theorem build_ey (gf mb : Nat) (W : World) : (Instr.build 111 #[(0, .agg #[.pointer (some ⟨gf, 0, none⟩), .slice none 0 0, .map (some mb), .int .i64 0])]).run Tryz.prog W = .ok (.agg #[.pointer (some ⟨gf, 0, none⟩), .slice none 0 0, .map (some mb), .int .i64 0, .int .i64 0]) W := by kernel_rfl
theorem wpList_bld14 {ops : Array Oper} {rest : List Oper} {op : Oper} {a : Go.Act} {w : World} {Q : Exit → Go.Act → World → Prop} (hgd : op.guard = none) (t : TypeId) (x : Operand) (i : Nat) (ho : op.op = .build t #[(i, x)]) (vx vr : Value) (hx : a.eval x = vx)
    (hrun : ∀ W, (Instr.build t #[(i, vx)]).run Tryz.prog W = .ok vr W)
    (h : wpList Tryz.prog ops Q rest (a.put op.dst vr) w) : wpList Tryz.prog ops Q (op :: rest) a w :=
  wpList_plain hgd fun K hK => by
    have h2 := hK _ _ h
    unfold Oper.wp execOp
    simp only [ho]
    simp [hx, hrun]
    exact h2
def cRt (gf mb : Nat) : List Value := [.pointer (some ⟨gf, 0, none⟩), .slice none 0 0, .map (some mb), .int .i64 0]
theorem rt_size (gf mb : Nat) : (Tryz.prog.info? 108).map (·.size) = some (cRt gf mb).length := by kernel_rfl
section
variable {FB : World → Nat → (Nat → Prop) → FD → Prop}
set_option maxHeartbeats 400000 in
set_option maxRecDepth 100000 in
theorem nothing_any (hC : FWE FB) (w : World) : Calls Tryz.prog 31 #[] w fun e w' => ∃ gf Ff mb, e = .returned (.agg (cRt gf mb).toArray) ∧ FB w' gf Ff FD0 ∧ MF sK13 w' mb (fun _ => none) ∧ ¬ Ff mb ∧ (∀ b, Ff b → w.heap.size ≤ b) ∧ w.heap.size ≤ mb ∧ Below w.heap.size w w' := by
  have hmm := @run_makeMap Tryz.prog
  have HNw := Lib.hid hC.new
  have HK : Hid (∀ w1 w2 gf Ff, FB w1 gf Ff FD0 → (∀ b, Ff b → w2.heap[b]? = w1.heap[b]?) → FB w2 gf Ff FD0) := Lib.hid (fun w1 w2 gf Ff h hb => hC.keep_ _ _ _ _ _ h hb)
  have HI : Hid (∀ w1 gf Ff, FB w1 gf Ff FD0 → ∀ b, Ff b → b < w1.heap.size) := Lib.hid (fun w1 gf Ff h => hC.inb _ _ _ _ h)
  clear hC
  go_enter Tryz.func31, Tryz.ntmps31
  go_upto_region 1 with fail
  have B0 := alloc_below w (.cells #[.pointer none, .slice none 0 0, .map none, .int .i64 0] 108)
  have K0 := Blk.new w 108 #[.pointer none, .slice none 0 0, .map none, .int .i64 0]
  refine fin (fun W => Blk W w.heap.size 108 #[.pointer none, .slice none 0 0, .map none, .int .i64 0] ∧ Below w.heap.size w W) ⟨K0, B0⟩ ?_
  clear K0 B0
  rintro W0 ⟨k0, b0⟩
  go_wp2_with fail
  refine (HNw.out W0).mono ?_
  rintro e w1 ⟨gf, Ff, rfl, h1, h2, h3⟩
  have hal : Below w1.heap.size w1 (w1.alloc (.map #[] 0)) := alloc_below _ _
  have k2 := (k0.keep h3).keep hal
  have hw0 : w.heap.size < W0.heap.size := k0.lt
  have hwb : w.heap.size < w1.heap.size := (k0.keep h3).lt
  have q2 := HI.out _ _ _ h1
  have hst : Below w.heap.size w ((w1.alloc (.map #[] 0)).setCells w.heap.size 0 (cRt gf w1.heap.size)) := below_setCells _ (bthen (bthen b0 h3) hal) (Nat.le_refl _)
  have hgr : (w1.alloc (.map #[] 0)).grownBy ((w1.alloc (.map #[] 0)).setCells w.heap.size 0 (cRt gf w1.heap.size)) (some w.heap.size) := grown_cells _ _ _ _
  have HE : Hid (Blk ((w1.alloc (.map #[] 0)).setCells w.heap.size 0 (cRt gf w1.heap.size)) w.heap.size 108 (cRt gf w1.heap.size).toArray ∧ FB ((w1.alloc (.map #[] 0)).setCells w.heap.size 0 (cRt gf w1.heap.size)) gf Ff FD0 ∧ MF sK13 ((w1.alloc (.map #[] 0)).setCells w.heap.size 0 (cRt gf w1.heap.size)) w1.heap.size (fun _ => none) ∧ ¬ Ff w1.heap.size ∧ (∀ b, Ff b → w.heap.size ≤ b) ∧ w.heap.size ≤ w1.heap.size ∧ Below w.heap.size w ((w1.alloc (.map #[] 0)).setCells w.heap.size 0 (cRt gf w1.heap.size))) := Lib.hid ⟨blk_over (Z := [.pointer none, .slice none 0 0, .map none, .int .i64 0]) k2 rfl, HK.out _ _ _ _ h1 (fun b c => by
    have h4 := q2 b c
    have h5 := h2 b c
    exact (hgr.block b (Nat.lt_of_lt_of_le h4 hal.size) (by intro e; injection e with e; omega)).trans (hal.block b h4)), (MF.new sK13 w1).same (hgr.block _ (by simp) (by intro e; injection e with e; omega)), fun c => by have := q2 _ c; omega, fun b c => Nat.le_trans b0.size (h2 b c), by omega, hst⟩
  obtain ⟨c0, c1, c2, c3⟩ := blk4 k2
  have f0 := k2.frozen 0
  have f1 := k2.frozen 1
  have f2 := k2.frozen 2
  have f3 := k2.frozen 3
  have hgl := k2.lt
  clear k0 h1 h2 h3 k2 q2 hst hal b0 HNw HK HI hwb hw0 hgr
  go_wp2
  refine fin (fun W => Blk W w.heap.size 108 (cRt gf w1.heap.size).toArray ∧ FB W gf Ff FD0 ∧ MF sK13 W w1.heap.size (fun _ => none) ∧ ¬ Ff w1.heap.size ∧ (∀ b, Ff b → w.heap.size ≤ b) ∧ w.heap.size ≤ w1.heap.size ∧ Below w.heap.size w W) HE.out ?_
  rintro W ⟨k, h1, h2, h3, h4, h5, h6⟩
  have hl := run_loadVar_mid W w.heap.size 0 108 (cRt gf w1.heap.size) _ (blk_whole k) Tryz.underlying108 rfl (rt_size _ _)
  (try simp only [Act.put, List.setIfInBounds_toArray])
  exact bodyPost_ret (v := .agg (cRt gf w1.heap.size).toArray) (results_cell Tryz.results31 rfl hl) rfl ⟨gf, Ff, w1.heap.size, rfl, h1, h2, h3, h4, h5, h6⟩
set_option maxHeartbeats 2000000 in
set_option maxRecDepth 100000 in
theorem lxnew_any (hC : FWE FB) (w : World) : Calls Tryz.prog 10 #[] w fun e w' => ∃ g F, e = .returned (.pointer (some ⟨g, 0, none⟩)) ∧ LEB FB w' g F XS0 ∧ (∀ b, F b → w.heap.size ≤ b) ∧ Below w.heap.size w w' := by
  have HN := Lib.hid (nothing_any hC w)
  have HFin : Hid (∀ w1 gf Ff mb, FB w1 gf Ff FD0 → MF sK13 w1 mb (fun _ => none) → ¬ Ff mb → (∀ b, Ff b → w.heap.size ≤ b) → w.heap.size ≤ mb → Below w.heap.size w w1 → ∃ F, LEB FB (w1.alloc (.cells #[.pointer (some ⟨gf, 0, none⟩), .slice none 0 0, .map (some mb), .int .i64 0, .int .i64 0] 111)) w1.heap.size F XS0 ∧ (∀ b, F b → w.heap.size ≤ b) ∧ Below w.heap.size w (w1.alloc (.cells #[.pointer (some ⟨gf, 0, none⟩), .slice none 0 0, .map (some mb), .int .i64 0, .int .i64 0] 111))) := Lib.hid (fun w1 gf Ff mb h1 h2 h3 h4 h5 h6 => by
    have hal := alloc_below w1 (.cells #[.pointer (some ⟨gf, 0, none⟩), .slice none 0 0, .map (some mb), .int .i64 0, .int .i64 0] 111)
    have hin := hC.inb _ _ _ _ h1
    have hml := h2.lt
    refine ⟨footE w1.heap.size Ff (.slice none 0 0) mb, ⟨gf, Ff, .slice none 0 0, mb, ⟨Blk.new w1 _ _, hC.keep h1 hal, OwnX.nil _ _ _ _ _, by rw [show XS0.S = [] from rfl, slM_nil]; exact h2.keep hal, fun c => by have := hin _ c; omega, h3, by omega, fun b c => by cases c⟩, fun _ => Iff.rfl⟩, ?_, bthen h6 hal⟩
    rintro b (c | c | c | c)
    · rw [c]; exact h6.size
    · exact h4 b c
    · cases c
    · rw [c]; exact h5)
  go_enter Tryz.func10, Tryz.ntmps10
  go_wp2_with fail
  refine HN.out.mono ?_
  rintro e w1 ⟨gf, Ff, mb, rfl, h1, h2, h3, h4, h5, h6⟩
  have HE := Lib.hid (HFin.out w1 gf Ff mb h1 h2 h3 h4 h5 h6)
  have hb : ∀ W, (Instr.build 111 #[(0, .agg (cRt gf mb).toArray)]).run Tryz.prog W = .ok (.agg #[.pointer (some ⟨gf, 0, none⟩), .slice none 0 0, .map (some mb), .int .i64 0, .int .i64 0]) W := build_ey gf mb
  clear h1 h2 h3 h4 h5 h6 HFin HN
  go_wp2_with (refine wpList_bld14 rfl 111 (.tmp 1) 0 rfl (.agg (cRt gf mb).toArray) _ rfl hb ?_)
  go_ret
  obtain ⟨F, k1, k2, k3⟩ := HE.out
  exact ⟨_, F, rfl, k1, k2, k3⟩
set_option maxHeartbeats 4000000 in
set_option maxRecDepth 100000 in
theorem lxforget_any (hC : FWE FB) {w : World} {g : Nat} {F : Nat → Prop} {E : XS} (h0 : LEB FB w g F E) : Calls Tryz.prog 11 #[.pointer (some ⟨g, 0, none⟩)] w fun e w' => e = .returned (.tuple #[]) ∧ ChB (LEB FB) w w' g F (XSn E.n) := by
  obtain ⟨gf, Ff, vr, mb, h, hF⟩ := h0
  have HN := Lib.hid (nothing_any hC w)
  have HFin : Hid (∀ w1 gf' Ff' mb', FB w1 gf' Ff' FD0 → MF sK13 w1 mb' (fun _ => none) → ¬ Ff' mb' → (∀ b, Ff' b → w.heap.size ≤ b) → w.heap.size ≤ mb' → Below w.heap.size w w1 → ChB (LEB FB) w (w1.setCells g 0 (cRt gf' mb')) g F (XSn E.n)) := Lib.hid (fun w1 gf' Ff' mb' h1 h2 h3 h4 h5 h6 => by
    have hgr := grown_cells (cRt gf' mb') w1 g 0
    have hin := hC.inb _ _ _ _ h1
    have hgl := h.blk.lt
    have hk : Blk w1 g 111 ([.pointer (some ⟨gf, 0, none⟩), vr, .map (some mb), .int .i64 E.since, .int .i64 E.n] : List Value).toArray := h.blk.keep h6
    have hk2 := blk_setCells (cRt gf' mb') (o := 0) hk (by show 0 + 4 ≤ 5; omega)
    refine ⟨footE g Ff' (.slice none 0 0) mb', ⟨gf', Ff', .slice none 0 0, mb', ⟨hk2, hC.keep_ _ _ _ _ _ h1 (fun b c => hgr.block b (hin b c) (by intro e; injection e with e; have := h4 b c; omega)), OwnX.nil _ _ _ _ _, by rw [show (XSn E.n).S = [] from rfl, slM_nil]; exact h2.same (hgr.block _ h2.lt (by intro e; injection e with e; omega)), fun c => by have := h4 _ c; omega, h3, by omega, fun b c => by cases c⟩, fun _ => Iff.rfl⟩, ?_, ?_⟩
    · exact ⟨hgr.os.trans h6.os, hgr.tape.trans h6.tape, hgr.output.trans h6.output, Nat.le_trans h6.size hgr.size, fun b hb hn => (hgr.block b (Nat.lt_of_lt_of_le hb h6.size) (by intro e; injection e with e; exact hn ((hF b).2 (Or.inl e)))).trans (h6.block b hb)⟩
    · rintro b (c | c | c | c)
      · exact Or.inl ((hF b).2 (Or.inl c))
      · exact Or.inr (h4 b c)
      · cases c
      · rw [c]; exact Or.inr h5)
  have HBk : Hid (∀ W, Below w.heap.size w W → Blk W g 111 #[.pointer (some ⟨gf, 0, none⟩), vr, .map (some mb), .int .i64 E.since, .int .i64 E.n]) := Lib.hid (fun W q => h.blk.keep q)
  clear hC h hF
  go_enter Tryz.func11, Tryz.ntmps11
  go_wp2_with fail
  refine HN.out.mono ?_
  rintro e w1 ⟨gf', Ff', mb', rfl, h1, h2, h3, h4, h5, h6⟩
  have HE := Lib.hid (HFin.out w1 gf' Ff' mb' h1 h2 h3 h4 h5 h6)
  have k2 := HBk.out w1 h6
  have c0 := k2.cell 0
  have c1 := k2.cell 1
  have c2 := k2.cell 2
  have c3 := k2.cell 3
  have f0 := k2.frozen 0
  have f1 := k2.frozen 1
  have f2 := k2.frozen 2
  have f3 := k2.frozen 3
  have hgl := k2.lt
  unfold cRt at HE ⊢
  clear h1 h2 h3 h4 h5 h6 k2 HFin HN HBk
  go_wp2
  go_end0
  exact ⟨rfl, HE.out⟩
set_option maxHeartbeats 2000000 in
set_option maxRecDepth 100000 in
theorem lxrecords_any {w : World} {g : Nat} {F : Nat → Prop} {E : XS} (h0 : LEB FB w g F E) (hl : E.R.length ≤ 2000) : Calls Tryz.prog 20 #[.pointer (some ⟨g, 0, none⟩)] w fun e w' => ∃ v, e = .returned v ∧ OwnX 12 cRc 92 w' w.heap.size v E.R ∧ Below w.heap.size w w' := by
  obtain ⟨gf, Ff, vr, mb, h, hF⟩ := h0
  obtain ⟨a, cap, rfl, hcap, hm, hrow⟩ := h.rc.row cRc_len
  have HCl := Lib.hid (clone_any a E.R.length cap E.R w hrow (by omega))
  have c1 : w.cell? ⟨g, 1, none⟩ = some (.slice a E.R.length cap) := h.blk.cell 1
  have hgl := h.blk.lt
  obtain ⟨n, hn⟩ : ∃ n, n = E.R.length := ⟨_, rfl⟩
  rw [← hn] at HCl c1
  clear h hF hcap hm hrow hn hl
  go_enter Tryz.func20, Tryz.ntmps20
  go_wp2_with fail
  refine HCl.out.mono ?_
  rintro e w1 ⟨v, rfl, ho, hb⟩
  have HO := Lib.hid (And.intro ho hb)
  clear ho hb HCl
  go_wp2
  go_ret
  exact ⟨v, rfl, HO.out.1, HO.out.2⟩
set_option maxHeartbeats 2000000 in
set_option maxRecDepth 100000 in
theorem lxslot_any {w : World} {g : Nat} {F : Nat → Prop} {E : XS} (h0 : LEB FB w g F E) (hS : SI E.S) (x : Int) (hx : Rg x) : Calls Tryz.prog 22 #[.pointer (some ⟨g, 0, none⟩), .int .i64 x] w fun e w' => e = .returned (.int .i64 (slotD E.S x)) ∧ Below w.heap.size w w' := by
  obtain ⟨gf, Ff, vr, mb, h, hF⟩ := h0
  have c2 : w.cell? ⟨g, 2, none⟩ = some (.map (some mb)) := h.blk.cell 2
  have hgl := h.blk.lt
  have hlk : (Instr.lookup 106 (.map (some mb)) (.int .i64 x) true).run Tryz.prog w = .ok (.tuple #[.int .i64 ((slM E.S x).getD 0), .bool (slM E.S x).isSome]) w := h.mp.look hx
  by_cases c : 0 ≤ slotD E.S x
  · have e1 : slM E.S x = some (slotD E.S x) := if_pos c
    rw [e1] at hlk
    obtain ⟨s, hs⟩ : ∃ s, s = slotD E.S x := ⟨_, rfl⟩
    rw [← hs] at hlk ⊢
    have hlk' : (Instr.lookup 106 (.map (some mb)) (.int .i64 x) true).run Tryz.prog w = .ok (.tuple #[.int .i64 s, .bool true]) w := hlk
    clear h hF hlk e1 c hs hS hx
    go_enter Tryz.func22, Tryz.ntmps22
    go_wp2
    go_ret
    exact ⟨rfl, Below.refl _ _⟩
  · have e1 : slM E.S x = none := if_neg c
    have e2 : slotD E.S x = -1 := slot_none (fun m => c ((slot_has hS).2 m))
    rw [e1] at hlk
    rw [e2]
    have hlk' : (Instr.lookup 106 (.map (some mb)) (.int .i64 x) true).run Tryz.prog w = .ok (.tuple #[.int .i64 0, .bool false]) w := hlk
    clear h hF hlk e1 e2 c hS hx
    go_enter Tryz.func22, Tryz.ntmps22
    go_wp2
    go_ret
    exact ⟨rfl, Below.refl _ _⟩
set_option maxHeartbeats 2000000 in
set_option maxRecDepth 100000 in
theorem lxsteps_any {w : World} {g : Nat} {F : Nat → Prop} {E : XS} (h0 : LEB FB w g F E) : Calls Tryz.prog 21 #[.pointer (some ⟨g, 0, none⟩)] w fun e w' => e = .returned (.int .i64 E.n) ∧ Below w.heap.size w w' := by
  obtain ⟨gf, Ff, vr, mb, h, hF⟩ := h0
  have c4 : w.cell? ⟨g, 4, none⟩ = some (.int .i64 E.n) := h.blk.cell 4
  have hgl := h.blk.lt
  obtain ⟨n, hn⟩ : ∃ n : Int, n = (E.n : Int) := ⟨_, rfl⟩
  rw [← hn] at c4 ⊢
  clear h hF hn
  go_enter Tryz.func21, Tryz.ntmps21
  go_wp2
  go_ret
  exact ⟨rfl, Below.refl _ _⟩
end
end Go.Proofs.YthhfcedhbfandaaGreat
