/-
  What the landed table's lengthen answers.
-/
import Derived.Test.YthhfcedhbfandaaGreatMS11
namespace Go.Proofs.YthhfcedhbfandaaGreat
open Go.RowKit

set_option maxHeartbeats 1000000 in
set_option maxRecDepth 100000 in
theorem pkinds_own (s : Int) (w : World) :
    Calls Tryz.prog 276 #[.int .i64 s] w fun e w' => ∃ v, e = .returned v ∧ OwnK w' w.heap.size v (kindsL s).length (kindsL s) ∧ Below w.heap.size w w' := by
  obtain ⟨i0, hi0, hz0, hz1, hz2⟩ := info_parts kind_info
  have HI := Lib.hid (And.intro hi0 (And.intro hz0 (And.intro hz1 hz2)))
  clear hi0 hz0 hz1 hz2
  go_enter Tryz.func276, Tryz.ntmps276
  go_wp2
  go_loopw [3, 5] (fun v i wr => ∃ k : Nat, k ≤ 5 ∧ i = .int .i64 k ∧ OwnK wr w.heap.size v (kindsTo s k).length (kindsTo s k) ∧ Below w.heap.size w wr) (fun _ i _ => 5 - (intOf i).toNat)
  case atStart => exact ⟨0, by omega, rfl, OwnK.nil _ _, Below.refl _ _⟩
  case round =>
    obtain ⟨k, hk, rfl, hown, hb⟩ := hrel
    have HOwn := Lib.hid hown
    have HB := Lib.hid hb
    clear hown hb
    by_cases hlt : k < 5
    · have hk0 : (0 : Int) ≤ (k : Int) := by omega
      have hk1 : (k : Int) < 5 := by omega
      have HK : Hid (kOk (k : Int) = true) := Lib.hid (by unfold kOk; simp; omega)
      have hle := kindsTo_len s k
      have ha := and_one s HK.out
      by_cases hL : hasB s (k : Int) = true
      · rw [hL] at ha
        have HA := Lib.hid (kindsTo_yes hL)
        clear hL
        obtain ⟨n, hn⟩ : ∃ n, n = (kindsTo s k).length := ⟨_, rfl⟩
        rw [← hn] at HOwn hle
        have HN := Lib.hid hn
        clear hn
        have hsz : w.heap.size ≤ wr.heap.size := HB.out.size
        go_wp2_with fail
        refine (pbit_any HK.out _).mono ?_
        rintro e w1 ⟨rfl, rfl⟩
        obtain ⟨t, ht⟩ : ∃ t, t = (2 : Int) ^ (k : Int).toNat := ⟨_, rfl⟩
        rw [← ht] at ha
        rw [← ht]
        clear ht
        go_wp2_with (at_builtin; refine wpList_append_own _ rfl (.tmp 13) (.tmp 15) 53 rfl w.heap.size 244 i0 (.int .i64 0) 1 8 Tryz.underlying53 HI.out.1 HI.out.2.1 HI.out.2.2.1 HI.out.2.2.2 rfl (by decide) _ _ _ rfl (HOwn.out.alloc _) ⟨wr.heap.size, 0, none⟩ 1 1 [.int .i64 (k : Int)] rfl rfl (cell_one_new _ _ _) (by intro u hu; simp at hu; subst hu; rfl) (by unfold maxLen; omega) (by omega) (by simp; omega) ?_)
        intro v' w2 hown' hgrow _
        have HOwn' := Lib.hid hown'
        have HGr := Lib.hid hgrow
        clear hown' hgrow
        go_wp2
        go_roundw
        case rel =>
          have el : (kindsTo s (k + 1)).length = n + 1 := by rw [HA.out, List.length_append, ← HN.out]; rfl
          refine ⟨k + 1, by omega, by go_num, ?_, grownK_below HOwn.out (Nat.le_refl _) HB.out hsz HGr.out⟩
          rw [el]
          unfold OwnK
          rw [HA.out, List.map_append]
          exact HOwn'.out
        case measure => simp [intOf] <;> omega
      · have hL' : hasB s (k : Int) = false := by simpa using hL
        rw [hL'] at ha
        have HA := Lib.hid (kindsTo_no hL')
        clear hL hL'
        go_wp2_with fail
        refine (pbit_any HK.out _).mono ?_
        rintro e w1 ⟨rfl, rfl⟩
        obtain ⟨t, ht⟩ : ∃ t, t = (2 : Int) ^ (k : Int).toNat := ⟨_, rfl⟩
        rw [← ht] at ha
        rw [← ht]
        clear ht
        go_wp2
        go_roundw
        case rel => exact ⟨k + 1, by omega, by go_num, by rw [HA.out]; exact HOwn.out, HB.out⟩
        case measure => simp [intOf] <;> omega
    · obtain rfl : k = 5 := by omega
      rw [kindsTo_all] at HOwn
      go_wp2
      go_ret
      exact ⟨_, rfl, HOwn.out, HB.out⟩


theorem OwnK.same {w w' : World} {base n : Nat} {v : Value} {zs : List Int} (h : OwnK w base v n zs) (he : ∀ b, v.ownBlock = some b → w'.heap[b]? = w.heap[b]?) : OwnK w' base v n zs := by
  refine ⟨h.1, ?_⟩
  rcases h.2 with hn | ⟨g, cap, cur, rfl, hb, hgg, rest⟩
  · exact .inl hn
  · exact .inr ⟨g, cap, cur, rfl, hb, by rw [he g rfl]; exact hgg, rest⟩
theorem wpList_appC {ops : Array Oper} {rest : List Oper} {op : Oper} {a : Go.Act} {w : World} {Q : Exit → Go.Act → World → Prop} (hgd : op.guard = none) (ts tb : Operand) (t e : TypeId) (k by_ : Nat) (z : Value) (c : Int × PT → List Value)
    (ho : op.op = .call { callee := .builtin .append, args := #[ts, tb], argTypes := #[t, t] }) (hu : Tryz.prog.underlying t = some (.slice e))
    (hinfo : (Tryz.prog.info? e).map (fun i => (i.zero, i.size, i.bytes)) = some (some z, k, by_)) (hzs : z.cells.size = k) (hk : 0 < k) (hby : by_ ≤ 1000) (hc : ∀ x, (c x).length = k)
    (v : Value) (X : TR) (hs : a.eval ts = v) (hcol : ColX w e k c v X) (hX : X.length ≤ 2000) (y : Int × PT) (Y : List Value) (hY : Y = c y) (hY1 : ∀ u ∈ Y, u.oneCell' = true) (H : Nat) (hb : Blk w H e Y.toArray) (hx : a.eval tb = .slice (some ⟨H, 0, none⟩) 1 1)
    (h : ∀ g cap w', ColX w' e k c (.slice (some ⟨g, 0, none⟩) (X.length + 1) cap) (X ++ [y]) → w.grownBy w' v.ownBlock → (v.ownBlock = some g ∨ w.heap.size ≤ g) → wpList Tryz.prog ops Q rest (a.put op.dst (.slice (some ⟨g, 0, none⟩) (X.length + 1) cap)) w') : wpList Tryz.prog ops Q (op :: rest) a w :=
  wpList_plain hgd fun _ hK => wp_appC ts tb t e k by_ z c ho hu hinfo hzs hk hby hc v X hs hcol hX y Y hY hY1 H hb hx fun g cap w' h1 h2 h3 => hK _ _ (h g cap w' h1 h2 h3)
theorem Tab.appStep {w0 W Wb W' : World} {g gu n cap j : Nat} {s : Int} {v0 v : Nat → Value} {X : Nat → TR} {y : Int × PT} (h : Tab W g s v X) (st : Step w0 W g v0 v) (hb : Below W.heap.size W Wb) (hj : j < 8) (hg : Wb.grownBy W' (v j).ownBlock) (hc : Col W' j (.slice (some ⟨gu, 0, none⟩) n cap) (X j ++ [y])) (hu : (v j).ownBlock = some gu ∨ Wb.heap.size ≤ gu) :
    (∃ v', Tab (W'.setCell ⟨g, 1 + j, none⟩ (.slice (some ⟨gu, 0, none⟩) n cap)) g s v' (upc X j (X j ++ [y])) ∧ Step w0 (W'.setCell ⟨g, 1 + j, none⟩ (.slice (some ⟨gu, 0, none⟩) n cap)) g v0 v') ∧ Step w0 Wb g v0 v ∧ Step w0 W' g v0 v ∧ W'.cell? ⟨g, 1 + j, none⟩ = some (v j) ∧ W'.frozen? ⟨g, 1 + j, none⟩ = false ∧ g < W'.heap.size := by
  obtain ⟨h1, h2⟩ := (h.keep hb).assign hj hg hc (fun b e => by
    have : gu = b := by simpa [Value.ownBlock] using e
    subst this
    exact hu)
  have sb := st.trans (Step.below (g := g) (v := v) hb)
  exact ⟨⟨_, h1, sb.trans h2⟩, sb, sb.trans ⟨⟨hg.os, hg.tape, hg.output, hg.size, fun k hk hn => hg.block k hk (fun e => hn (Or.inr ⟨j, hj, e.symm⟩))⟩, fun _ h => Or.inl h⟩, (h.keep hb).mid hj hg⟩
/-- a block that is no part of a table stays -/
theorem Step.blk {w0 W : World} {g gp : Nat} {v0 v : Nat → Value} {t : TypeId} {C : Array Value} (st : Step w0 W g v0 v) (h : Blk w0 gp t C) (hn : ¬ foot g v0 gp) : Blk W gp t C := h.same (st.fr.2.2.2.2 gp h.lt hn)

/-- a column's kind -/
def kC (i : Nat) : Int := if i = 1 then 0 else if i ≤ 3 then 1 else if i ≤ 6 then 2 else 3
/-- the names, and the columns of these kinds, with a row more -/
def addKs (ks : List Int) (X : Nat → TR) (y : Int × PT) (i : Nat) : TR := if i = 0 ∨ kC i ∈ ks then X i ++ [y] else X i
theorem addKs_not {ks : List Int} {X : Nat → TR} {y : Int × PT} {i : Nat} (h0 : i ≠ 0) (h : kC i ∉ ks) : addKs ks X y i = X i := by unfold addKs; rw [if_neg (by rintro (c | c); exact h0 c; exact h c)]
theorem addKs_snoc {ks : List Int} {k : Int} {X : Nat → TR} {y : Int × PT} {i : Nat} : addKs (ks ++ [k]) X y i = if i = 0 ∨ kC i ∈ ks then X i ++ [y] else if kC i = k then X i ++ [y] else X i := by
  unfold addKs
  by_cases c : i = 0 ∨ kC i ∈ ks
  · rw [if_pos c, if_pos (by rcases c with c | c; exact Or.inl c; exact Or.inr (by simp [c]))]
  · rw [if_neg c]
    by_cases d : kC i = k
    · rw [if_pos d, if_pos (Or.inr (by simp [d]))]
    · rw [if_neg d, if_neg (by rintro (e | e); exact c (Or.inl e); rw [List.mem_append] at e; rcases e with e | e; exact c (Or.inr e); exact d (by simpa using e))]
theorem kinds_nodup (s : Int) : (kindsL s).Nodup := List.Nodup.sublist List.filter_sublist (by decide)
theorem kinds_ok {s : Int} {j : Nat} {k : Int} (h : (kindsL s)[j]? = some k) : kOk k = true := by
  have := List.mem_of_getElem? h
  unfold kindsL at this
  rw [List.mem_filter] at this
  obtain ⟨h1, _⟩ := this
  simp only [List.mem_cons, List.not_mem_nil, or_false] at h1
  rcases h1 with rfl | rfl | rfl | rfl | rfl <;> rfl
theorem kinds_new {s : Int} {j : Nat} {k : Int} (h : (kindsL s)[j]? = some k) : k ∉ (kindsL s).take j := fun c => by
  obtain ⟨q, hq, e⟩ := List.mem_take_iff_getElem.1 c
  obtain ⟨hj, ej⟩ := List.getElem?_eq_some_iff.1 h
  have hp := List.pairwise_iff_getElem.1 (kinds_nodup s)
  exact hp q j (by omega) hj (by omega) (e.trans ej.symm)
theorem take_kind {s : Int} {j : Nat} {k : Int} (h : (kindsL s)[j]? = some k) : (kindsL s).take (j + 1) = (kindsL s).take j ++ [k] := by rw [List.take_add_one, h]; rfl

theorem bs_int (x : Int) (W : World) : (Instr.buildSlice 90 1 #[(0, .int .i64 x)]).run Tryz.prog W = .ok (.slice (some ⟨W.heap.size, 0, none⟩) 1 1) (W.alloc (.cells ([.int .i64 x] : List Value).toArray 3)) := by kernel_rfl
theorem bs_bool (x : Bool) (W : World) : (Instr.buildSlice 328 1 #[(0, .bool x)]).run Tryz.prog W = .ok (.slice (some ⟨W.heap.size, 0, none⟩) 1 1) (W.alloc (.cells ([.bool x] : List Value).toArray 4)) := by kernel_rfl
theorem bs_mat (M : Nat → Int) (W : World) : (Instr.buildSlice 326 1 #[(0, .agg ([.int .i64 (M 0), .int .i64 (M 1), .int .i64 (M 2), .int .i64 (M 3), .int .i64 (M 4), .int .i64 (M 5), .int .i64 (M 6), .int .i64 (M 7), .int .i64 (M 8), .int .i64 (M 9), .int .i64 (M 10), .int .i64 (M 11)] : List Value).toArray)]).run Tryz.prog W = .ok (.slice (some ⟨W.heap.size, 0, none⟩) 1 1) (W.alloc (.cells ([.int .i64 (M 0), .int .i64 (M 1), .int .i64 (M 2), .int .i64 (M 3), .int .i64 (M 4), .int .i64 (M 5), .int .i64 (M 6), .int .i64 (M 7), .int .i64 (M 8), .int .i64 (M 9), .int .i64 (M 10), .int .i64 (M 11)] : List Value).toArray 46)) := by kernel_rfl
theorem bs_box (M : Nat → Int) (W : World) : (Instr.buildSlice 327 1 #[(0, .agg ([.int .i64 (M 0), .int .i64 (M 1), .int .i64 (M 2), .int .i64 (M 3), .int .i64 (M 4), .int .i64 (M 5)] : List Value).toArray)]).run Tryz.prog W = .ok (.slice (some ⟨W.heap.size, 0, none⟩) 1 1) (W.alloc (.cells ([.int .i64 (M 0), .int .i64 (M 1), .int .i64 (M 2), .int .i64 (M 3), .int .i64 (M 4), .int .i64 (M 5)] : List Value).toArray 50)) := by kernel_rfl
theorem inf_id : (Tryz.prog.info? 81).map (fun i => (i.zero, i.size, i.bytes)) = some (some (.int .i64 0), 1, 8) := by kernel_rfl
theorem inf_int : (Tryz.prog.info? 3).map (fun i => (i.zero, i.size, i.bytes)) = some (some (.int .i64 0), 1, 8) := by kernel_rfl
theorem inf_bool : (Tryz.prog.info? 4).map (fun i => (i.zero, i.size, i.bytes)) = some (some (.bool false), 1, 1) := by kernel_rfl
theorem inf_mat : (Tryz.prog.info? 46).map (fun i => (i.zero, i.size, i.bytes)) = some (some (.agg #[.int .i64 0, .int .i64 0, .int .i64 0, .int .i64 0, .int .i64 0, .int .i64 0, .int .i64 0, .int .i64 0, .int .i64 0, .int .i64 0, .int .i64 0, .int .i64 0]), 12, 96) := by kernel_rfl
theorem inf_box : (Tryz.prog.info? 50).map (fun i => (i.zero, i.size, i.bytes)) = some (some (.agg #[.int .i64 0, .int .i64 0, .int .i64 0, .int .i64 0, .int .i64 0, .int .i64 0]), 6, 48) := by kernel_rfl
theorem one_int (x : Int) : ∀ u ∈ ([.int .i64 x] : List Value), u.oneCell' = true := fun u hu => by rw [List.mem_singleton.1 hu]; rfl
theorem one_bool (x : Bool) : ∀ u ∈ ([.bool x] : List Value), u.oneCell' = true := fun u hu => by rw [List.mem_singleton.1 hu]; rfl
theorem one_all {X : List Value} (h : X.toArray.all (·.oneCell') = true) : ∀ u ∈ X, u.oneCell' = true := fun u hu => by
  rw [← Array.all_toList] at h
  exact List.all_eq_true.1 h u (by simpa using hu)

set_option maxHeartbeats 16000000 in
set_option maxRecDepth 100000 in
theorem lengthen_any {g : Nat} {s : Int} {v : Nat → Value} {X : Nat → TR} {w : World} (h0 : Tab w g s v X) (hX : ∀ i, i < 8 → (X i).length ≤ 1000) (id hh : Int) (M : Nat → Int) (m : Int) (B : Nat → Int) (p a : Int) (c : Bool) (l : Int) :
    Calls Tryz.prog 242 #[.pointer (some ⟨g, 1, none⟩), .int .i64 id, .agg (PL hh M m B p a c l).toArray] w fun e w' => e = .returned (.tuple #[]) ∧ ∃ v', Tab w' g s v' (addKs (kindsL hh) X (id, hh, M, m, B, p, a, c, l)) ∧ Step w w' g v v' := by
  have HX := Lib.hid hX
  have HPL : Hid (∀ u g, Blk u g 52 (PL hh M m B p a c l).toArray → (u.rangeAt g 1 [.int .i64 (M 0), .int .i64 (M 1), .int .i64 (M 2), .int .i64 (M 3), .int .i64 (M 4), .int .i64 (M 5), .int .i64 (M 6), .int .i64 (M 7), .int .i64 (M 8), .int .i64 (M 9), .int .i64 (M 10), .int .i64 (M 11)] ∧ u.cell? ⟨g, 13, none⟩ = some (.int .i64 m) ∧ u.rangeAt g 14 [.int .i64 (B 0), .int .i64 (B 1), .int .i64 (B 2), .int .i64 (B 3), .int .i64 (B 4), .int .i64 (B 5)] ∧ u.cell? ⟨g, 20, none⟩ = some (.int .i64 p) ∧ u.cell? ⟨g, 21, none⟩ = some (.int .i64 a) ∧ u.cell? ⟨g, 22, none⟩ = some (.bool c) ∧ u.cell? ⟨g, 23, none⟩ = some (.int .i64 l)) ∧ u.cell? ⟨g, 0, none⟩ = some (.int .i64 hh)) := Lib.hid (fun u g k => ⟨⟨blk_range k 1 12, k.cell 13, blk_range k 14 6, k.cell 20, k.cell 21, k.cell 22, k.cell 23⟩, k.cell 0⟩)
  have HS1 : Hid ((Tryz.prog.info? 46).map (·.size) = some ([.int .i64 (M 0), .int .i64 (M 1), .int .i64 (M 2), .int .i64 (M 3), .int .i64 (M 4), .int .i64 (M 5), .int .i64 (M 6), .int .i64 (M 7), .int .i64 (M 8), .int .i64 (M 9), .int .i64 (M 10), .int .i64 (M 11)] : List Value).length) := Lib.hid info_mat
  have HS3 : Hid ((Tryz.prog.info? 50).map (·.size) = some ([.int .i64 (B 0), .int .i64 (B 1), .int .i64 (B 2), .int .i64 (B 3), .int .i64 (B 4), .int .i64 (B 5)] : List Value).length) := Lib.hid info_box
  obtain ⟨Xp, hXp⟩ : ∃ Xp, Xp = PL hh M m B p a c l := ⟨_, rfl⟩
  rw [← hXp] at HPL
  rw [← hXp]
  clear hXp
  have HP : Hid (¬ foot g v w.heap.size) := Lib.hid (fun c => by have := h0.inb _ c; omega)
  have H0 : Hid (Tab (w.alloc (.cells Xp.toArray 52)) g s v X ∧ Step w (w.alloc (.cells Xp.toArray 52)) g v v ∧ Blk (w.alloc (.cells Xp.toArray 52)) w.heap.size 52 Xp.toArray) :=
    Lib.hid ⟨h0.keep (alloc_below _ _), Step.below (alloc_below _ _), Blk.new _ _ _⟩
  clear h0 hX
  go_enter Tryz.func242, Tryz.ntmps242
  go_upto_region 1 with fail
  refine fin (fun W => Tab W g s v X ∧ Step w W g v v ∧ Blk W w.heap.size 52 Xp.toArray) H0.out ?_
  rintro W0 HT'
  have HT := Lib.hid HT'
  clear HT' H0
  -- the name
  have cc : W0.cell? ⟨g, 1, none⟩ = some (v 0) := (HT.out.1.cell (j := 0) (by omega)).1
  have hgw : g < W0.heap.size := HT.out.1.blk.lt
  obtain ⟨u, hu⟩ : ∃ u, u = v 0 := ⟨_, rfl⟩
  have HU := Lib.hid hu
  rw [← hu] at cc
  clear hu
  go_wp2_with (at_builtin; refine wpList_appC rfl (.tmp 12) (.tmp 14) 35 81 1 8 (.int .i64 0) cId rfl Tryz.underlying35 inf_id rfl (by decide) (by decide) (fun _ => rfl) u (X 0) rfl (HU.out ▸ (HT.out.1.keep (alloc_below _ _)).own 0 (by omega)) (Nat.le_trans (HX.out 0 (by omega)) (by omega)) (id, hh, M, m, B, p, a, c, l) [.int .i64 id] rfl (one_int id) W0.heap.size (Blk.new _ _ _) rfl ?_)
  intro gu cap w1 hc hgr hat
  rw [HU.out] at hgr hat
  obtain ⟨hn, -, -, c1, f1, hg1⟩ := Tab.appStep HT.out.1 (Step.refl W0 g v) (alloc_below _ _) (j := 0) (by omega) hgr hc (by simpa using hat)
  have HN := Lib.hid hn
  replace c1 : w1.cell? ⟨g, 1, none⟩ = some (v 0) := c1
  replace f1 : w1.frozen? ⟨g, 1, none⟩ = false := f1
  rw [← HU.out] at c1
  clear hn hc hgr hat cc
  generalize (X 0).length + 1 = nn at HN ⊢
  go_upto_region 2 with fail
  refine fin (fun W => ∃ v', Tab W g s v' (upc X 0 (X 0 ++ [(id, hh, M, m, B, p, a, c, l)])) ∧ Step W0 W g v v') HN.out ?_
  clear c1 f1 hg1 hgw
  rintro W1 ⟨v1, t1, s1⟩
  have HT1 := Lib.hid t1
  have HS := Lib.hid (HT.out.2.1.trans s1)
  have HB1 : Hid (Blk W1 w.heap.size 52 Xp.toArray ∧ ¬ foot g v1 w.heap.size) := Lib.hid ⟨s1.blk HT.out.2.2 HP.out, fun cf => by
    rcases s1.new _ cf with d | d
    · exact HP.out d
    · have := HT.out.2.2.lt; omega⟩
  clear t1 s1 HN HT HU
  -- the kinds
  have cp := (HPL.out _ _ HB1.out.1).2
  have hgp := HB1.out.1.lt
  go_wp2_with fail
  refine (pkinds_own hh _).mono ?_
  rintro e w2 ⟨q, rfl, ok, b2⟩
  have HOK := Lib.hid ok
  obtain ⟨qa, qcap, rfl, hrow⟩ := ok.row
  obtain ⟨n, hn⟩ : ∃ n, n = (kindsL hh).length := ⟨_, rfl⟩
  have hnl : n ≤ 5 := by rw [hn, ← kindsTo_all]; exact kindsTo_len hh 5
  rw [← hn] at HOK ⊢
  have HN := Lib.hid hn
  obtain ⟨v2, hv2⟩ : ∃ v2 : Nat → Value, v2 = v1 := ⟨_, rfl⟩
  have HT2 : Hid (Tab w2 g s v2 (addKs [] X (id, hh, M, m, B, p, a, c, l)) ∧ Step w w2 g v v2) := Lib.hid (by
    rw [hv2]
    refine ⟨(HT1.out.keep b2).ext (fun i _ => ?_), HS.out.trans (Step.below b2)⟩
    unfold upc addKs
    by_cases c : i = 0
    · subst c; rw [if_pos rfl, if_pos (Or.inl rfl)]
    · rw [if_neg c, if_neg (by rintro (d | d); exact c d; cases d)])
  have HSt : Hid (∀ u x, Step w2 u g v2 x → (u.rangeAt w.heap.size 1 [.int .i64 (M 0), .int .i64 (M 1), .int .i64 (M 2), .int .i64 (M 3), .int .i64 (M 4), .int .i64 (M 5), .int .i64 (M 6), .int .i64 (M 7), .int .i64 (M 8), .int .i64 (M 9), .int .i64 (M 10), .int .i64 (M 11)] ∧ u.cell? ⟨w.heap.size, 13, none⟩ = some (.int .i64 m) ∧ u.rangeAt w.heap.size 14 [.int .i64 (B 0), .int .i64 (B 1), .int .i64 (B 2), .int .i64 (B 3), .int .i64 (B 4), .int .i64 (B 5)] ∧ u.cell? ⟨w.heap.size, 20, none⟩ = some (.int .i64 p) ∧ u.cell? ⟨w.heap.size, 21, none⟩ = some (.int .i64 a) ∧ u.cell? ⟨w.heap.size, 22, none⟩ = some (.bool c) ∧ u.cell? ⟨w.heap.size, 23, none⟩ = some (.int .i64 l))) := Lib.hid (fun u x st => (HPL.out _ _ (st.blk (HB1.out.1.keep b2) (hv2 ▸ HB1.out.2))).1)
  have HRw : Hid (∀ u x, Step w2 u g v2 x → Row u qa n (kindsL hh)) := Lib.hid (fun u x st => by
    have h1 : OwnK u W1.heap.size (.slice qa n qcap) n (kindsL hh) := HOK.out.same (fun b hb => st.fr.2.2.2.2 b (World.ownsRow.lt HOK.out b hb).2 (fun cf => by
      have h2 := HT1.out.inb b (hv2 ▸ cf)
      have h3 := (World.ownsRow.lt HOK.out b hb).1
      omega))
    obtain ⟨a', cap', e, hr⟩ := h1.row
    injection e with e1 e2 e3
    rw [e1]
    exact hr)
  clear hn hv2 hrow b2 HT1 HS HB1 HOK HPL cp hgp HP ok
  go_wp2
  go_loopw [7, 22] (fun _ i wr => ∃ j : Nat, j ≤ n ∧ i = .int .i64 j ∧ ∃ vv, Tab wr g s vv (addKs ((kindsL hh).take j) X (id, hh, M, m, B, p, a, c, l)) ∧ Step w2 wr g v2 vv) (fun _ i _ => n - (intOf i).toNat)
  case atStart => exact ⟨0, by omega, rfl, v2, HT2.out.1, Step.refl _ _ _⟩
  case round =>
    obtain ⟨j, hj, rfl, vv, HT'⟩ := hrel
    have HT := Lib.hid HT'
    clear HT'
    by_cases hlt : j < n
    · obtain ⟨b, off, k, rfl, hv, c0⟩ := row_at6 (HRw.out _ _ HT.out.2) hlt
      have HV := Lib.hid hv
      have hk := kinds_ok hv
      have HNew := Lib.hid (kinds_new hv)
      clear hv
      have hbw := World.block_lt_of_cell? wr _ c0
      have j0 : (0 : Int) ≤ (j : Int) := by omega
      have j1 : (j : Int) < (n : Int) := by omega
      obtain ⟨XX, hXX⟩ : ∃ XX, XX = addKs ((kindsL hh).take j) X (id, hh, M, m, B, p, a, c, l) := ⟨_, rfl⟩
      have HE := Lib.hid hXX
      rw [← hXX] at HT
      clear hXX
      rcases kOk_cases hk with rfl | rfl | rfl | rfl | rfl
      · go_upto_region 7 with fail
        clear c0 hbw
        have HXX : Hid (∀ i, i < 8 → (XX i).length ≤ 2000) := Lib.hid (fun i hi => by rw [HE.out]; unfold addKs; have := HX.out i hi; split <;> simp <;> omega)
        have cc : wr.cell? ⟨g, 2, none⟩ = some (vv 1) := (HT.out.1.cell (j := 1) (by omega)).1
        have hgw : g < wr.heap.size := HT.out.1.blk.lt
        have CB : Hid ((wr.drew.alloc (.cells ([.int .i64 (M 0), .int .i64 (M 1), .int .i64 (M 2), .int .i64 (M 3), .int .i64 (M 4), .int .i64 (M 5), .int .i64 (M 6), .int .i64 (M 7), .int .i64 (M 8), .int .i64 (M 9), .int .i64 (M 10), .int .i64 (M 11)] : List Value).toArray 46)).cell? ⟨g, 2, none⟩ = some (vv 1)) := Lib.hid (cell_keep (w := wr.drew) cc (alloc_below _ _))
        have HD := Lib.hid (show Tab wr.drew g s vv XX ∧ Step w2 wr.drew g v2 vv from ⟨HT.out.1.drew, HT.out.2.drew⟩)
        have CW := Lib.hid cc
        clear cc
        refine wp_region_held_drew (S := fun w' => w'.rangeAt w.heap.size 1 [.int .i64 (M 0), .int .i64 (M 1), .int .i64 (M 2), .int .i64 (M 3), .int .i64 (M 4), .int .i64 (M 5), .int .i64 (M 6), .int .i64 (M 7), .int .i64 (M 8), .int .i64 (M 9), .int .i64 (M 10), .int .i64 (M 11)]) (by kernel_rfl) ((HSt.out _ _ HD.out.2).1) (fun hHeld => ?_)
        refine tk 0 hHeld ?_
        refine tk 1 hHeld ?_
        refine tk 2 hHeld ?_
        refine tk 3 hHeld ?_
        refine tk 5 hHeld ?_
        refine tkl 6 rfl (yieldsIf_load_mid (by rfl) _ _ rfl _ _ rfl _ _ (fun _ h => h) Tryz.underlying46 rfl HS1.out) hHeld ?_
        refine wpAnyH_pair (i := 4) (j := 7) (v := vv 1) (u := .slice (some ⟨wr.heap.size, 0, none⟩) 1 1) (w' := (wr.drew.alloc (.cells ([.int .i64 (M 0), .int .i64 (M 1), .int .i64 (M 2), .int .i64 (M 3), .int .i64 (M 4), .int .i64 (M 5), .int .i64 (M 6), .int .i64 (M 7), .int .i64 (M 8), .int .i64 (M 9), .int .i64 (M 10), .int .i64 (M 11)] : List Value).toArray 46))) rfl rfl (by kernel_rfl) (by kernel_rfl) (by kernel_rfl) (by rfl) (by rfl) (by rfl) (by rfl) (exec_cell rfl rfl Tryz.underlying326 CW.out) (exec_bs rfl rfl (bs_mat M _)) (exec_bs rfl rfl (bs_mat M _)) (exec_cell rfl rfl Tryz.underlying326 CB.out) rfl hHeld ((HSt.out _ _ (HD.out.2.trans (Step.below (alloc_below _ _)))).1) ?_
        simp only [Act.put, List.getElem_toArray, List.getElem_cons_zero, List.getElem_cons_succ, List.setIfInBounds_toArray, List.set_cons_zero, List.set_cons_succ]
        clear hHeld CW CB
        refine rd 8 (fun K hK => ?_)
        rw [if_pos (by rfl)]
        refine wp_appC (.tmp 33) (.tmp 36) 326 46 12 96 (.agg #[.int .i64 0, .int .i64 0, .int .i64 0, .int .i64 0, .int .i64 0, .int .i64 0, .int .i64 0, .int .i64 0, .int .i64 0, .int .i64 0, .int .i64 0, .int .i64 0]) cMat rfl Tryz.underlying326 inf_mat rfl (by decide) (by decide) (fun _ => rfl) (vv 1) (XX 1) rfl ((HD.out.1.keep (alloc_below _ _)).own 1 (by omega)) (HXX.out 1 (by omega)) (id, hh, M, m, B, p, a, c, l) [.int .i64 (M 0), .int .i64 (M 1), .int .i64 (M 2), .int .i64 (M 3), .int .i64 (M 4), .int .i64 (M 5), .int .i64 (M 6), .int .i64 (M 7), .int .i64 (M 8), .int .i64 (M 9), .int .i64 (M 10), .int .i64 (M 11)] rfl (one_all (one_mat M)) wr.heap.size (Blk.new _ _ _) rfl ?_
        intro gu cap w1 hc hgr hat
        obtain ⟨hn, -, sc, c1, f1, hg1⟩ := Tab.appStep HD.out.1 HD.out.2 (alloc_below _ _) (j := 1) (by omega) hgr hc hat
        have HN := Lib.hid hn
        have SC := Lib.hid sc
        replace c1 : w1.cell? ⟨g, 2, none⟩ = some (vv 1) := c1
        replace f1 : w1.frozen? ⟨g, 2, none⟩ = false := f1
        clear hn sc hc hgr hat
        generalize (XX 1).length + 1 = nn at HN ⊢
        refine hK.out _ _ ((HSt.out _ _ SC.out).1) (fun hHeld => ?_)
        clear hK K
        simp only [Act.put, List.getElem_toArray, List.getElem_cons_zero, List.getElem_cons_succ, List.setIfInBounds_toArray, List.set_cons_zero, List.set_cons_succ]
        refine tk 9 hHeld ?_
        refine tk 10 hHeld ?_
        refine rd 11 (fun K hK => ?_)
        go_simp
        refine hK.out _ _ (by obtain ⟨x', _, x2⟩ := HN.out; exact (HSt.out _ _ x2).1) (fun hHeld => ?_)
        clear hK K
        refine wpAnyH_done (by kernel_rfl) ?_ _
        clear hHeld
        refine fin (fun W => ∃ v', Tab W g s v' (upc XX 1 (XX 1 ++ [(id, hh, M, m, B, p, a, c, l)])) ∧ Step w2 W g v2 v') HN.out ?_
        clear HN SC c1 f1 hg1 HD HT hgw
        rintro V00 ⟨vv, HT'⟩
        have HT := Lib.hid HT'
        clear HT'
        go_wp2
        go_roundw
        case rel =>
          refine ⟨j + 1, by omega, by go_num, vv, HT.out.1.ext (fun i hi => ?_), HT.out.2⟩
          rw [take_kind HV.out, addKs_snoc]
          have nk := HNew.out
          rw [HE.out]
          unfold upc
          rcases lt8 hi with rfl | rfl | rfl | rfl | rfl | rfl | rfl | rfl
          all_goals first | rfl | simp [kC, addKs, nk]
        case measure => simp [intOf] <;> omega
      · go_upto_region 9 with fail
        clear c0 hbw
        have HXX : Hid (∀ i, i < 8 → (XX i).length ≤ 2000) := Lib.hid (fun i hi => by rw [HE.out]; unfold addKs; have := HX.out i hi; split <;> simp <;> omega)
        have cc : wr.cell? ⟨g, 3, none⟩ = some (vv 2) := (HT.out.1.cell (j := 2) (by omega)).1
        have hgw : g < wr.heap.size := HT.out.1.blk.lt
        have CB : Hid ((wr.drew.alloc (.cells ([.int .i64 m] : List Value).toArray 3)).cell? ⟨g, 3, none⟩ = some (vv 2)) := Lib.hid (cell_keep (w := wr.drew) cc (alloc_below _ _))
        have HD := Lib.hid (show Tab wr.drew g s vv XX ∧ Step w2 wr.drew g v2 vv from ⟨HT.out.1.drew, HT.out.2.drew⟩)
        have CW := Lib.hid cc
        clear cc
        refine wp_region_held_drew (S := fun w' => w'.cell? ⟨w.heap.size, 13, none⟩ = some (.int .i64 m)) (by kernel_rfl) ((HSt.out _ _ HD.out.2).2.1) (fun hHeld => ?_)
        refine tk 0 hHeld ?_
        refine tk 1 hHeld ?_
        refine tk 2 hHeld ?_
        refine tk 3 hHeld ?_
        refine tk 5 hHeld ?_
        refine tk 6 hHeld ?_
        refine wpAnyH_pair (i := 4) (j := 7) (v := vv 2) (u := .slice (some ⟨wr.heap.size, 0, none⟩) 1 1) (w' := (wr.drew.alloc (.cells ([.int .i64 m] : List Value).toArray 3))) rfl rfl (by kernel_rfl) (by kernel_rfl) (by kernel_rfl) (by rfl) (by rfl) (by rfl) (by rfl) (exec_cell rfl rfl Tryz.underlying90 CW.out) (exec_bs rfl rfl (bs_int m _)) (exec_bs rfl rfl (bs_int m _)) (exec_cell rfl rfl Tryz.underlying90 CB.out) rfl hHeld ((HSt.out _ _ (HD.out.2.trans (Step.below (alloc_below _ _)))).2.1) ?_
        simp only [Act.put, List.getElem_toArray, List.getElem_cons_zero, List.getElem_cons_succ, List.setIfInBounds_toArray, List.set_cons_zero, List.set_cons_succ]
        clear hHeld CW CB
        refine rd 8 (fun K hK => ?_)
        rw [if_pos (by rfl)]
        refine wp_appC (.tmp 46) (.tmp 49) 90 3 1 8 (.int .i64 0) cMesh rfl Tryz.underlying90 inf_int rfl (by decide) (by decide) (fun _ => rfl) (vv 2) (XX 2) rfl ((HD.out.1.keep (alloc_below _ _)).own 2 (by omega)) (HXX.out 2 (by omega)) (id, hh, M, m, B, p, a, c, l) [.int .i64 m] rfl (one_int m) wr.heap.size (Blk.new _ _ _) rfl ?_
        intro gu cap w1 hc hgr hat
        obtain ⟨hn, -, sc, c1, f1, hg1⟩ := Tab.appStep HD.out.1 HD.out.2 (alloc_below _ _) (j := 2) (by omega) hgr hc hat
        have HN := Lib.hid hn
        have SC := Lib.hid sc
        replace c1 : w1.cell? ⟨g, 3, none⟩ = some (vv 2) := c1
        replace f1 : w1.frozen? ⟨g, 3, none⟩ = false := f1
        clear hn sc hc hgr hat
        generalize (XX 2).length + 1 = nn at HN ⊢
        refine hK.out _ _ ((HSt.out _ _ SC.out).2.1) (fun hHeld => ?_)
        clear hK K
        simp only [Act.put, List.getElem_toArray, List.getElem_cons_zero, List.getElem_cons_succ, List.setIfInBounds_toArray, List.set_cons_zero, List.set_cons_succ]
        refine tk 9 hHeld ?_
        refine tk 10 hHeld ?_
        refine rd 11 (fun K hK => ?_)
        go_simp
        refine hK.out _ _ (by obtain ⟨x', _, x2⟩ := HN.out; exact (HSt.out _ _ x2).2.1) (fun hHeld => ?_)
        clear hK K
        refine wpAnyH_done (by kernel_rfl) ?_ _
        clear hHeld
        refine fin (fun W => ∃ v', Tab W g s v' (upc XX 2 (XX 2 ++ [(id, hh, M, m, B, p, a, c, l)])) ∧ Step w2 W g v2 v') HN.out ?_
        clear HN SC c1 f1 hg1 HD HT hgw
        rintro V10 ⟨vv, HT'⟩
        have HT := Lib.hid HT'
        clear HT'
        go_upto_region 10 with fail
        obtain ⟨XX1, hXX1⟩ : ∃ XX1, XX1 = upc XX 2 (XX 2 ++ [(id, hh, M, m, B, p, a, c, l)]) := ⟨_, rfl⟩
        rw [← hXX1] at HT
        have HE1 := Lib.hid hXX1
        clear hXX1
        replace HXX : Hid (∀ i, i < 8 → (XX1 i).length ≤ 2000) := Lib.hid (fun i hi => by
          rw [HE1.out]
          unfold upc
          split
          · have e0 : XX 2 = X 2 := by rw [HE.out]; exact addKs_not (by decide) HNew.out
            rw [e0]; have := HX.out 2 (by omega); simp; omega
          · exact HXX.out i hi)
        have cc : V10.cell? ⟨g, 4, none⟩ = some (vv 3) := (HT.out.1.cell (j := 3) (by omega)).1
        have hgw : g < V10.heap.size := HT.out.1.blk.lt
        have CB : Hid ((V10.drew.alloc (.cells ([.int .i64 (B 0), .int .i64 (B 1), .int .i64 (B 2), .int .i64 (B 3), .int .i64 (B 4), .int .i64 (B 5)] : List Value).toArray 50)).cell? ⟨g, 4, none⟩ = some (vv 3)) := Lib.hid (cell_keep (w := V10.drew) cc (alloc_below _ _))
        have HD := Lib.hid (show Tab V10.drew g s vv XX1 ∧ Step w2 V10.drew g v2 vv from ⟨HT.out.1.drew, HT.out.2.drew⟩)
        have CW := Lib.hid cc
        clear cc
        refine wp_region_held_drew (S := fun w' => w'.rangeAt w.heap.size 14 [.int .i64 (B 0), .int .i64 (B 1), .int .i64 (B 2), .int .i64 (B 3), .int .i64 (B 4), .int .i64 (B 5)]) (by kernel_rfl) ((HSt.out _ _ HD.out.2).2.2.1) (fun hHeld => ?_)
        refine tk 0 hHeld ?_
        refine tk 1 hHeld ?_
        refine tk 2 hHeld ?_
        refine tk 3 hHeld ?_
        refine tk 5 hHeld ?_
        refine tkl 6 rfl (yieldsIf_load_mid (by rfl) _ _ rfl _ _ rfl _ _ (fun _ h => h) Tryz.underlying50 rfl HS3.out) hHeld ?_
        refine wpAnyH_pair (i := 4) (j := 7) (v := vv 3) (u := .slice (some ⟨V10.heap.size, 0, none⟩) 1 1) (w' := (V10.drew.alloc (.cells ([.int .i64 (B 0), .int .i64 (B 1), .int .i64 (B 2), .int .i64 (B 3), .int .i64 (B 4), .int .i64 (B 5)] : List Value).toArray 50))) rfl rfl (by kernel_rfl) (by kernel_rfl) (by kernel_rfl) (by rfl) (by rfl) (by rfl) (by rfl) (exec_cell rfl rfl Tryz.underlying327 CW.out) (exec_bs rfl rfl (bs_box B _)) (exec_bs rfl rfl (bs_box B _)) (exec_cell rfl rfl Tryz.underlying327 CB.out) rfl hHeld ((HSt.out _ _ (HD.out.2.trans (Step.below (alloc_below _ _)))).2.2.1) ?_
        simp only [Act.put, List.getElem_toArray, List.getElem_cons_zero, List.getElem_cons_succ, List.setIfInBounds_toArray, List.set_cons_zero, List.set_cons_succ]
        clear hHeld CW CB
        refine rd 8 (fun K hK => ?_)
        rw [if_pos (by rfl)]
        refine wp_appC (.tmp 57) (.tmp 60) 327 50 6 48 (.agg #[.int .i64 0, .int .i64 0, .int .i64 0, .int .i64 0, .int .i64 0, .int .i64 0]) cBox rfl Tryz.underlying327 inf_box rfl (by decide) (by decide) (fun _ => rfl) (vv 3) (XX1 3) rfl ((HD.out.1.keep (alloc_below _ _)).own 3 (by omega)) (HXX.out 3 (by omega)) (id, hh, M, m, B, p, a, c, l) [.int .i64 (B 0), .int .i64 (B 1), .int .i64 (B 2), .int .i64 (B 3), .int .i64 (B 4), .int .i64 (B 5)] rfl (one_all (one_box B)) V10.heap.size (Blk.new _ _ _) rfl ?_
        intro gu cap w1 hc hgr hat
        obtain ⟨hn, -, sc, c1, f1, hg1⟩ := Tab.appStep HD.out.1 HD.out.2 (alloc_below _ _) (j := 3) (by omega) hgr hc hat
        have HN := Lib.hid hn
        have SC := Lib.hid sc
        replace c1 : w1.cell? ⟨g, 4, none⟩ = some (vv 3) := c1
        replace f1 : w1.frozen? ⟨g, 4, none⟩ = false := f1
        clear hn sc hc hgr hat
        generalize (XX1 3).length + 1 = nn at HN ⊢
        refine hK.out _ _ ((HSt.out _ _ SC.out).2.2.1) (fun hHeld => ?_)
        clear hK K
        simp only [Act.put, List.getElem_toArray, List.getElem_cons_zero, List.getElem_cons_succ, List.setIfInBounds_toArray, List.set_cons_zero, List.set_cons_succ]
        refine tk 9 hHeld ?_
        refine tk 10 hHeld ?_
        refine rd 11 (fun K hK => ?_)
        go_simp
        refine hK.out _ _ (by obtain ⟨x', _, x2⟩ := HN.out; exact (HSt.out _ _ x2).2.2.1) (fun hHeld => ?_)
        clear hK K
        refine wpAnyH_done (by kernel_rfl) ?_ _
        clear hHeld
        refine fin (fun W => ∃ v', Tab W g s v' (upc XX1 3 (XX1 3 ++ [(id, hh, M, m, B, p, a, c, l)])) ∧ Step w2 W g v2 v') HN.out ?_
        clear HN SC c1 f1 hg1 HD HT hgw
        rintro V11 ⟨vv, HT'⟩
        have HT := Lib.hid HT'
        clear HT'
        go_wp2
        go_roundw
        case rel =>
          refine ⟨j + 1, by omega, by go_num, vv, HT.out.1.ext (fun i hi => ?_), HT.out.2⟩
          rw [take_kind HV.out, addKs_snoc]
          have nk := HNew.out
          rw [HE1.out, HE.out]
          unfold upc
          rcases lt8 hi with rfl | rfl | rfl | rfl | rfl | rfl | rfl | rfl
          all_goals first | rfl | simp [kC, addKs, nk]
        case measure => simp [intOf] <;> omega
      · go_upto_region 12 with fail
        clear c0 hbw
        have HXX : Hid (∀ i, i < 8 → (XX i).length ≤ 2000) := Lib.hid (fun i hi => by rw [HE.out]; unfold addKs; have := HX.out i hi; split <;> simp <;> omega)
        have cc : wr.cell? ⟨g, 5, none⟩ = some (vv 4) := (HT.out.1.cell (j := 4) (by omega)).1
        have hgw : g < wr.heap.size := HT.out.1.blk.lt
        have CB : Hid ((wr.drew.alloc (.cells ([.int .i64 p] : List Value).toArray 3)).cell? ⟨g, 5, none⟩ = some (vv 4)) := Lib.hid (cell_keep (w := wr.drew) cc (alloc_below _ _))
        have HD := Lib.hid (show Tab wr.drew g s vv XX ∧ Step w2 wr.drew g v2 vv from ⟨HT.out.1.drew, HT.out.2.drew⟩)
        have CW := Lib.hid cc
        clear cc
        refine wp_region_held_drew (S := fun w' => w'.cell? ⟨w.heap.size, 20, none⟩ = some (.int .i64 p)) (by kernel_rfl) ((HSt.out _ _ HD.out.2).2.2.2.1) (fun hHeld => ?_)
        refine tk 0 hHeld ?_
        refine tk 1 hHeld ?_
        refine tk 2 hHeld ?_
        refine tk 3 hHeld ?_
        refine tk 5 hHeld ?_
        refine tk 6 hHeld ?_
        refine wpAnyH_pair (i := 4) (j := 7) (v := vv 4) (u := .slice (some ⟨wr.heap.size, 0, none⟩) 1 1) (w' := (wr.drew.alloc (.cells ([.int .i64 p] : List Value).toArray 3))) rfl rfl (by kernel_rfl) (by kernel_rfl) (by kernel_rfl) (by rfl) (by rfl) (by rfl) (by rfl) (exec_cell rfl rfl Tryz.underlying90 CW.out) (exec_bs rfl rfl (bs_int p _)) (exec_bs rfl rfl (bs_int p _)) (exec_cell rfl rfl Tryz.underlying90 CB.out) rfl hHeld ((HSt.out _ _ (HD.out.2.trans (Step.below (alloc_below _ _)))).2.2.2.1) ?_
        simp only [Act.put, List.getElem_toArray, List.getElem_cons_zero, List.getElem_cons_succ, List.setIfInBounds_toArray, List.set_cons_zero, List.set_cons_succ]
        clear hHeld CW CB
        refine rd 8 (fun K hK => ?_)
        rw [if_pos (by rfl)]
        refine wp_appC (.tmp 70) (.tmp 73) 90 3 1 8 (.int .i64 0) cPipe rfl Tryz.underlying90 inf_int rfl (by decide) (by decide) (fun _ => rfl) (vv 4) (XX 4) rfl ((HD.out.1.keep (alloc_below _ _)).own 4 (by omega)) (HXX.out 4 (by omega)) (id, hh, M, m, B, p, a, c, l) [.int .i64 p] rfl (one_int p) wr.heap.size (Blk.new _ _ _) rfl ?_
        intro gu cap w1 hc hgr hat
        obtain ⟨hn, -, sc, c1, f1, hg1⟩ := Tab.appStep HD.out.1 HD.out.2 (alloc_below _ _) (j := 4) (by omega) hgr hc hat
        have HN := Lib.hid hn
        have SC := Lib.hid sc
        replace c1 : w1.cell? ⟨g, 5, none⟩ = some (vv 4) := c1
        replace f1 : w1.frozen? ⟨g, 5, none⟩ = false := f1
        clear hn sc hc hgr hat
        generalize (XX 4).length + 1 = nn at HN ⊢
        refine hK.out _ _ ((HSt.out _ _ SC.out).2.2.2.1) (fun hHeld => ?_)
        clear hK K
        simp only [Act.put, List.getElem_toArray, List.getElem_cons_zero, List.getElem_cons_succ, List.setIfInBounds_toArray, List.set_cons_zero, List.set_cons_succ]
        refine tk 9 hHeld ?_
        refine tk 10 hHeld ?_
        refine rd 11 (fun K hK => ?_)
        go_simp
        refine hK.out _ _ (by obtain ⟨x', _, x2⟩ := HN.out; exact (HSt.out _ _ x2).2.2.2.1) (fun hHeld => ?_)
        clear hK K
        refine wpAnyH_done (by kernel_rfl) ?_ _
        clear hHeld
        refine fin (fun W => ∃ v', Tab W g s v' (upc XX 4 (XX 4 ++ [(id, hh, M, m, B, p, a, c, l)])) ∧ Step w2 W g v2 v') HN.out ?_
        clear HN SC c1 f1 hg1 HD HT hgw
        rintro V20 ⟨vv, HT'⟩
        have HT := Lib.hid HT'
        clear HT'
        go_upto_region 13 with fail
        obtain ⟨XX1, hXX1⟩ : ∃ XX1, XX1 = upc XX 4 (XX 4 ++ [(id, hh, M, m, B, p, a, c, l)]) := ⟨_, rfl⟩
        rw [← hXX1] at HT
        have HE1 := Lib.hid hXX1
        clear hXX1
        replace HXX : Hid (∀ i, i < 8 → (XX1 i).length ≤ 2000) := Lib.hid (fun i hi => by
          rw [HE1.out]
          unfold upc
          split
          · have e0 : XX 4 = X 4 := by rw [HE.out]; exact addKs_not (by decide) HNew.out
            rw [e0]; have := HX.out 4 (by omega); simp; omega
          · exact HXX.out i hi)
        have cc : V20.cell? ⟨g, 6, none⟩ = some (vv 5) := (HT.out.1.cell (j := 5) (by omega)).1
        have hgw : g < V20.heap.size := HT.out.1.blk.lt
        have CB : Hid ((V20.drew.alloc (.cells ([.int .i64 a] : List Value).toArray 3)).cell? ⟨g, 6, none⟩ = some (vv 5)) := Lib.hid (cell_keep (w := V20.drew) cc (alloc_below _ _))
        have HD := Lib.hid (show Tab V20.drew g s vv XX1 ∧ Step w2 V20.drew g v2 vv from ⟨HT.out.1.drew, HT.out.2.drew⟩)
        have CW := Lib.hid cc
        clear cc
        refine wp_region_held_drew (S := fun w' => w'.cell? ⟨w.heap.size, 21, none⟩ = some (.int .i64 a)) (by kernel_rfl) ((HSt.out _ _ HD.out.2).2.2.2.2.1) (fun hHeld => ?_)
        refine tk 0 hHeld ?_
        refine tk 1 hHeld ?_
        refine tk 2 hHeld ?_
        refine tk 3 hHeld ?_
        refine tk 5 hHeld ?_
        refine tk 6 hHeld ?_
        refine wpAnyH_pair (i := 4) (j := 7) (v := vv 5) (u := .slice (some ⟨V20.heap.size, 0, none⟩) 1 1) (w' := (V20.drew.alloc (.cells ([.int .i64 a] : List Value).toArray 3))) rfl rfl (by kernel_rfl) (by kernel_rfl) (by kernel_rfl) (by rfl) (by rfl) (by rfl) (by rfl) (exec_cell rfl rfl Tryz.underlying90 CW.out) (exec_bs rfl rfl (bs_int a _)) (exec_bs rfl rfl (bs_int a _)) (exec_cell rfl rfl Tryz.underlying90 CB.out) rfl hHeld ((HSt.out _ _ (HD.out.2.trans (Step.below (alloc_below _ _)))).2.2.2.2.1) ?_
        simp only [Act.put, List.getElem_toArray, List.getElem_cons_zero, List.getElem_cons_succ, List.setIfInBounds_toArray, List.set_cons_zero, List.set_cons_succ]
        clear hHeld CW CB
        refine rd 8 (fun K hK => ?_)
        rw [if_pos (by rfl)]
        refine wp_appC (.tmp 81) (.tmp 84) 90 3 1 8 (.int .i64 0) cMtl rfl Tryz.underlying90 inf_int rfl (by decide) (by decide) (fun _ => rfl) (vv 5) (XX1 5) rfl ((HD.out.1.keep (alloc_below _ _)).own 5 (by omega)) (HXX.out 5 (by omega)) (id, hh, M, m, B, p, a, c, l) [.int .i64 a] rfl (one_int a) V20.heap.size (Blk.new _ _ _) rfl ?_
        intro gu cap w1 hc hgr hat
        obtain ⟨hn, -, sc, c1, f1, hg1⟩ := Tab.appStep HD.out.1 HD.out.2 (alloc_below _ _) (j := 5) (by omega) hgr hc hat
        have HN := Lib.hid hn
        have SC := Lib.hid sc
        replace c1 : w1.cell? ⟨g, 6, none⟩ = some (vv 5) := c1
        replace f1 : w1.frozen? ⟨g, 6, none⟩ = false := f1
        clear hn sc hc hgr hat
        generalize (XX1 5).length + 1 = nn at HN ⊢
        refine hK.out _ _ ((HSt.out _ _ SC.out).2.2.2.2.1) (fun hHeld => ?_)
        clear hK K
        simp only [Act.put, List.getElem_toArray, List.getElem_cons_zero, List.getElem_cons_succ, List.setIfInBounds_toArray, List.set_cons_zero, List.set_cons_succ]
        refine tk 9 hHeld ?_
        refine tk 10 hHeld ?_
        refine rd 11 (fun K hK => ?_)
        go_simp
        refine hK.out _ _ (by obtain ⟨x', _, x2⟩ := HN.out; exact (HSt.out _ _ x2).2.2.2.2.1) (fun hHeld => ?_)
        clear hK K
        refine wpAnyH_done (by kernel_rfl) ?_ _
        clear hHeld
        refine fin (fun W => ∃ v', Tab W g s v' (upc XX1 5 (XX1 5 ++ [(id, hh, M, m, B, p, a, c, l)])) ∧ Step w2 W g v2 v') HN.out ?_
        clear HN SC c1 f1 hg1 HD HT hgw
        rintro V21 ⟨vv, HT'⟩
        have HT := Lib.hid HT'
        clear HT'
        go_upto_region 14 with fail
        obtain ⟨XX2, hXX2⟩ : ∃ XX2, XX2 = upc XX1 5 (XX1 5 ++ [(id, hh, M, m, B, p, a, c, l)]) := ⟨_, rfl⟩
        rw [← hXX2] at HT
        have HE2 := Lib.hid hXX2
        clear hXX2
        replace HXX : Hid (∀ i, i < 8 → (XX2 i).length ≤ 2000) := Lib.hid (fun i hi => by
          rw [HE2.out]
          unfold upc
          split
          · have e0 : XX1 5 = X 5 := by rw [HE1.out]; unfold upc; rw [if_neg (by decide), HE.out]; exact addKs_not (by decide) HNew.out
            rw [e0]; have := HX.out 5 (by omega); simp; omega
          · exact HXX.out i hi)
        have cc : V21.cell? ⟨g, 7, none⟩ = some (vv 6) := (HT.out.1.cell (j := 6) (by omega)).1
        have hgw : g < V21.heap.size := HT.out.1.blk.lt
        have CB : Hid ((V21.drew.alloc (.cells ([.bool c] : List Value).toArray 4)).cell? ⟨g, 7, none⟩ = some (vv 6)) := Lib.hid (cell_keep (w := V21.drew) cc (alloc_below _ _))
        have HD := Lib.hid (show Tab V21.drew g s vv XX2 ∧ Step w2 V21.drew g v2 vv from ⟨HT.out.1.drew, HT.out.2.drew⟩)
        have CW := Lib.hid cc
        clear cc
        refine wp_region_held_drew (S := fun w' => w'.cell? ⟨w.heap.size, 22, none⟩ = some (.bool c)) (by kernel_rfl) ((HSt.out _ _ HD.out.2).2.2.2.2.2.1) (fun hHeld => ?_)
        refine tk 0 hHeld ?_
        refine tk 1 hHeld ?_
        refine tk 2 hHeld ?_
        refine tk 3 hHeld ?_
        refine tk 5 hHeld ?_
        refine tk 6 hHeld ?_
        refine wpAnyH_pair (i := 4) (j := 7) (v := vv 6) (u := .slice (some ⟨V21.heap.size, 0, none⟩) 1 1) (w' := (V21.drew.alloc (.cells ([.bool c] : List Value).toArray 4))) rfl rfl (by kernel_rfl) (by kernel_rfl) (by kernel_rfl) (by rfl) (by rfl) (by rfl) (by rfl) (exec_cell rfl rfl Tryz.underlying328 CW.out) (exec_bs rfl rfl (bs_bool c _)) (exec_bs rfl rfl (bs_bool c _)) (exec_cell rfl rfl Tryz.underlying328 CB.out) rfl hHeld ((HSt.out _ _ (HD.out.2.trans (Step.below (alloc_below _ _)))).2.2.2.2.2.1) ?_
        simp only [Act.put, List.getElem_toArray, List.getElem_cons_zero, List.getElem_cons_succ, List.setIfInBounds_toArray, List.set_cons_zero, List.set_cons_succ]
        clear hHeld CW CB
        refine rd 8 (fun K hK => ?_)
        rw [if_pos (by rfl)]
        refine wp_appC (.tmp 92) (.tmp 95) 328 4 1 1 (.bool false) cClr rfl Tryz.underlying328 inf_bool rfl (by decide) (by decide) (fun _ => rfl) (vv 6) (XX2 6) rfl ((HD.out.1.keep (alloc_below _ _)).own 6 (by omega)) (HXX.out 6 (by omega)) (id, hh, M, m, B, p, a, c, l) [.bool c] rfl (one_bool c) V21.heap.size (Blk.new _ _ _) rfl ?_
        intro gu cap w1 hc hgr hat
        obtain ⟨hn, -, sc, c1, f1, hg1⟩ := Tab.appStep HD.out.1 HD.out.2 (alloc_below _ _) (j := 6) (by omega) hgr hc hat
        have HN := Lib.hid hn
        have SC := Lib.hid sc
        replace c1 : w1.cell? ⟨g, 7, none⟩ = some (vv 6) := c1
        replace f1 : w1.frozen? ⟨g, 7, none⟩ = false := f1
        clear hn sc hc hgr hat
        generalize (XX2 6).length + 1 = nn at HN ⊢
        refine hK.out _ _ ((HSt.out _ _ SC.out).2.2.2.2.2.1) (fun hHeld => ?_)
        clear hK K
        simp only [Act.put, List.getElem_toArray, List.getElem_cons_zero, List.getElem_cons_succ, List.setIfInBounds_toArray, List.set_cons_zero, List.set_cons_succ]
        refine tk 9 hHeld ?_
        refine tk 10 hHeld ?_
        refine rd 11 (fun K hK => ?_)
        go_simp
        refine hK.out _ _ (by obtain ⟨x', _, x2⟩ := HN.out; exact (HSt.out _ _ x2).2.2.2.2.2.1) (fun hHeld => ?_)
        clear hK K
        refine wpAnyH_done (by kernel_rfl) ?_ _
        clear hHeld
        refine fin (fun W => ∃ v', Tab W g s v' (upc XX2 6 (XX2 6 ++ [(id, hh, M, m, B, p, a, c, l)])) ∧ Step w2 W g v2 v') HN.out ?_
        clear HN SC c1 f1 hg1 HD HT hgw
        rintro V22 ⟨vv, HT'⟩
        have HT := Lib.hid HT'
        clear HT'
        go_wp2
        go_roundw
        case rel =>
          refine ⟨j + 1, by omega, by go_num, vv, HT.out.1.ext (fun i hi => ?_), HT.out.2⟩
          rw [take_kind HV.out, addKs_snoc]
          have nk := HNew.out
          rw [HE2.out, HE1.out, HE.out]
          unfold upc
          rcases lt8 hi with rfl | rfl | rfl | rfl | rfl | rfl | rfl | rfl
          all_goals first | rfl | simp [kC, addKs, nk]
        case measure => simp [intOf] <;> omega
      · go_upto_region 16 with fail
        clear c0 hbw
        have HXX : Hid (∀ i, i < 8 → (XX i).length ≤ 2000) := Lib.hid (fun i hi => by rw [HE.out]; unfold addKs; have := HX.out i hi; split <;> simp <;> omega)
        have cc : wr.cell? ⟨g, 8, none⟩ = some (vv 7) := (HT.out.1.cell (j := 7) (by omega)).1
        have hgw : g < wr.heap.size := HT.out.1.blk.lt
        have CB : Hid ((wr.drew.alloc (.cells ([.int .i64 l] : List Value).toArray 3)).cell? ⟨g, 8, none⟩ = some (vv 7)) := Lib.hid (cell_keep (w := wr.drew) cc (alloc_below _ _))
        have HD := Lib.hid (show Tab wr.drew g s vv XX ∧ Step w2 wr.drew g v2 vv from ⟨HT.out.1.drew, HT.out.2.drew⟩)
        have CW := Lib.hid cc
        clear cc
        refine wp_region_held_drew (S := fun w' => w'.cell? ⟨w.heap.size, 23, none⟩ = some (.int .i64 l)) (by kernel_rfl) ((HSt.out _ _ HD.out.2).2.2.2.2.2.2) (fun hHeld => ?_)
        refine tk 0 hHeld ?_
        refine tk 1 hHeld ?_
        refine tk 2 hHeld ?_
        refine tk 3 hHeld ?_
        refine tk 5 hHeld ?_
        refine tk 6 hHeld ?_
        refine wpAnyH_pair (i := 4) (j := 7) (v := vv 7) (u := .slice (some ⟨wr.heap.size, 0, none⟩) 1 1) (w' := (wr.drew.alloc (.cells ([.int .i64 l] : List Value).toArray 3))) rfl rfl (by kernel_rfl) (by kernel_rfl) (by kernel_rfl) (by rfl) (by rfl) (by rfl) (by rfl) (exec_cell rfl rfl Tryz.underlying90 CW.out) (exec_bs rfl rfl (bs_int l _)) (exec_bs rfl rfl (bs_int l _)) (exec_cell rfl rfl Tryz.underlying90 CB.out) rfl hHeld ((HSt.out _ _ (HD.out.2.trans (Step.below (alloc_below _ _)))).2.2.2.2.2.2) ?_
        simp only [Act.put, List.getElem_toArray, List.getElem_cons_zero, List.getElem_cons_succ, List.setIfInBounds_toArray, List.set_cons_zero, List.set_cons_succ]
        clear hHeld CW CB
        refine rd 8 (fun K hK => ?_)
        rw [if_pos (by rfl)]
        refine wp_appC (.tmp 105) (.tmp 108) 90 3 1 8 (.int .i64 0) cLay rfl Tryz.underlying90 inf_int rfl (by decide) (by decide) (fun _ => rfl) (vv 7) (XX 7) rfl ((HD.out.1.keep (alloc_below _ _)).own 7 (by omega)) (HXX.out 7 (by omega)) (id, hh, M, m, B, p, a, c, l) [.int .i64 l] rfl (one_int l) wr.heap.size (Blk.new _ _ _) rfl ?_
        intro gu cap w1 hc hgr hat
        obtain ⟨hn, -, sc, c1, f1, hg1⟩ := Tab.appStep HD.out.1 HD.out.2 (alloc_below _ _) (j := 7) (by omega) hgr hc hat
        have HN := Lib.hid hn
        have SC := Lib.hid sc
        replace c1 : w1.cell? ⟨g, 8, none⟩ = some (vv 7) := c1
        replace f1 : w1.frozen? ⟨g, 8, none⟩ = false := f1
        clear hn sc hc hgr hat
        generalize (XX 7).length + 1 = nn at HN ⊢
        refine hK.out _ _ ((HSt.out _ _ SC.out).2.2.2.2.2.2) (fun hHeld => ?_)
        clear hK K
        simp only [Act.put, List.getElem_toArray, List.getElem_cons_zero, List.getElem_cons_succ, List.setIfInBounds_toArray, List.set_cons_zero, List.set_cons_succ]
        refine tk 9 hHeld ?_
        refine tk 10 hHeld ?_
        refine rd 11 (fun K hK => ?_)
        go_simp
        refine hK.out _ _ (by obtain ⟨x', _, x2⟩ := HN.out; exact (HSt.out _ _ x2).2.2.2.2.2.2) (fun hHeld => ?_)
        clear hK K
        refine wpAnyH_done (by kernel_rfl) ?_ _
        clear hHeld
        refine fin (fun W => ∃ v', Tab W g s v' (upc XX 7 (XX 7 ++ [(id, hh, M, m, B, p, a, c, l)])) ∧ Step w2 W g v2 v') HN.out ?_
        clear HN SC c1 f1 hg1 HD HT hgw
        rintro V30 ⟨vv, HT'⟩
        have HT := Lib.hid HT'
        clear HT'
        go_wp2
        go_roundw
        case rel =>
          refine ⟨j + 1, by omega, by go_num, vv, HT.out.1.ext (fun i hi => ?_), HT.out.2⟩
          rw [take_kind HV.out, addKs_snoc]
          have nk := HNew.out
          rw [HE.out]
          unfold upc
          rcases lt8 hi with rfl | rfl | rfl | rfl | rfl | rfl | rfl | rfl
          all_goals first | rfl | simp [kC, addKs, nk]
        case measure => simp [intOf] <;> omega
      · go_wp2
        go_roundw
        case rel =>
          refine ⟨j + 1, by omega, by go_num, vv, HT.out.1.ext (fun i hi => ?_), HT.out.2⟩
          rw [take_kind HV.out, addKs_snoc]
          rw [HE.out]
          rcases lt8 hi with rfl | rfl | rfl | rfl | rfl | rfl | rfl | rfl <;> rfl
        case measure => simp [intOf] <;> omega
    · obtain rfl : j = n := by omega
      go_wp2
      go_end0
      refine ⟨rfl, vv, ?_, HT2.out.2.trans HT.out.2⟩
      have := HT.out.1
      rwa [HN.out, List.take_length] at this

end Go.Proofs.YthhfcedhbfandaaGreat
