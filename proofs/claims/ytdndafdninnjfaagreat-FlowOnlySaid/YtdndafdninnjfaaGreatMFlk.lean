/-
  4 texts in one file, each with its own heading.
-/
import Derived.Test.YtdndafdninnjfaaGreatMFlh
/-
  What the reference's Run of layer 10 answers, and makes of the flow, if its All answers as it should.
-/
namespace Go.Proofs.YtdndafdninnjfaaGreat
open Go.RowKit

/-- what All is to answer -/
def GAll : Prop := ∀ (w : World) (g : Nat) (D : FD) (vl vd vs : Value), RW w g D vl vd vs → (D.L.map Nd.id).Nodup → WF (treesN D.L) → D.L.length ≤ 1000 → (∀ n ∈ D.L, okM n.pl = true) →
  Calls Tryz.prog 29 #[.pointer (some ⟨g, 0, none⟩)] w fun e w' => ∃ v, e = .returned (.tuple #[v, .int .i64 (allN D.L).e]) ∧ OwnX 14 cSt 52 w' w.heap.size v (allN D.L).out ∧ Below w.heap.size w w'
theorem undL_len10 {L : FT} (h : WF L) (l : List Int) : (undL L l).length ≤ l.length + L.length := by
  have h1 := und_len h (ns := sortI l) (sort_sorted l [] List.Pairwise.nil)
  have h2 := (sortI_perm l).length_eq
  unfold undL
  omega
theorem fr_refl10 (w : World) (F : Nat → Prop) : Fr w w F := ⟨rfl, rfl, rfl, Nat.le_refl _, fun _ _ _ => rfl⟩
section
variable {w : World} {g : Nat} {D : FD} {vl vd vs : Value} {F : Nat → Prop}
theorem RW.setT (h : RW w g D vl vd vs) (s : Nat) {z : Int} (hz : z = (s : Int)) : RW (w.setCell ⟨g, 4, none⟩ (.int .i64 z)) g { D with steps := s } vl vd vs ∧ Fr w (w.setCell ⟨g, 4, none⟩ (.int .i64 z)) (fun b => b = g) := by
  subst hz
  exact ⟨⟨h.blk.set_ 4 _, h.nod.same (fun b e => set_at (h.ol b e).1), ownd_same h.dir (fun b e => set_at (h.od b e).1), h.sts.same (fun b e => set_at (h.os b e)), h.ol, h.od, h.os⟩, ⟨rfl, rfl, rfl, by simp [World.setCell], fun b _ hn => set_at hn⟩⟩
/-- nothing is dirty any more, no states -/
theorem RW.clean (h : RW w g D vl vd vs) (b : Bool) : RW (((w.setCell ⟨g, 1, none⟩ (.slice none 0 0)).setCell ⟨g, 2, none⟩ (.bool b)).setCell ⟨g, 3, none⟩ (.slice none 0 0)) g { D with dirty := [], begun := b, sts := [] } vl (.slice none 0 0) (.slice none 0 0) ∧ Fr w (((w.setCell ⟨g, 1, none⟩ (.slice none 0 0)).setCell ⟨g, 2, none⟩ (.bool b)).setCell ⟨g, 3, none⟩ (.slice none 0 0)) (fun q => q = g) := by
  have hs : ∀ q, q ≠ g → (((w.setCell ⟨g, 1, none⟩ (.slice none 0 0)).setCell ⟨g, 2, none⟩ (.bool b)).setCell ⟨g, 3, none⟩ (.slice none 0 0)).heap[q]? = w.heap[q]? := fun q hq => by rw [set_at hq, set_at hq, set_at hq]
  exact ⟨⟨((h.blk.set_ 1 _).set_ 2 _).set_ 3 _, h.nod.same (fun q e => hs q (h.ol q e).1), OwnD.nil _ _, OwnX.nil _ _ _ _ _, fun q e => ⟨(h.ol q e).1, fun k => (by cases k), fun k => (by cases k)⟩, fun q e => (by cases e), fun q e => (by cases e)⟩, ⟨rfl, rfl, rfl, by simp [World.setCell], fun q _ hn => hs q hn⟩⟩
/-- and then states -/
theorem RW.setS (h : RW w g D vl vd (.slice none 0 0)) {v : Value} {base : Nat} {S : List Stt} (ho : OwnX 14 cSt 52 w base v S) (hfar : ∀ b, v.ownBlock = some b → b ≠ g ∧ vl.ownBlock ≠ some b ∧ vd.ownBlock ≠ some b) : RW (w.setCell ⟨g, 3, none⟩ v) g { D with sts := S } vl vd v ∧ Fr w (w.setCell ⟨g, 3, none⟩ v) (fun q => q = g) :=
  ⟨⟨h.blk.set_ 3 _, h.nod.same (fun b e => set_at (h.ol b e).1), ownd_same h.dir (fun b e => set_at (h.od b e).1), (ho.low (Nat.zero_le _)).same (fun b e => set_at (hfar b e).1), fun b e => ⟨(h.ol b e).1, (h.ol b e).2.1, fun e2 => (hfar b e2).2.1 e⟩, fun b e => ⟨(h.od b e).1, fun e2 => (hfar b e2).2.2 e⟩, fun b e => (hfar b e).1⟩, ⟨rfl, rfl, rfl, by simp [World.setCell], fun b _ hn => set_at hn⟩⟩
set_option maxHeartbeats 8000000 in
set_option maxRecDepth 100000 in
theorem grun_any (hG : GAll) (h0 : RWB w g F D) (hnod : (D.L.map Nd.id).Nodup) (hW : WF (treesN D.L)) (hn : D.L.length ≤ 1000) (hd : D.dirty.length ≤ 10000) (hok : ∀ n ∈ D.L, okM n.pl = true) (hst : D.steps ≤ 1000000) :
    Calls Tryz.prog 9 #[.pointer (some ⟨g, 0, none⟩)] w fun e w' => ∃ v, e = .returned (.tuple #[v, .int .i64 (runE D)]) ∧ LRes w w' (touchN D) v ∧ ChX RWB w w' g F (runD D) := by
  obtain ⟨vl, vd, vs, h, hF⟩ := h0
  have HTo := Lib.hid (gtouched_any h hW hn hd)
  have hdn : (dirtyN D).length ≤ 10000 := by
    unfold dirtyN
    split
    · exact Nat.le_trans (List.length_filter_le _ _) hd
    · unfold namesN
      rw [(sortI_perm _).length_eq, List.length_map]
      omega
  have htl : (touchN D).length ≤ 11000 := by
    have h1 := undL_len10 hW (dirtyN D)
    have h2 := trees_len D.L
    unfold touchN
    omega
  have H := Lib.hid h
  have HFt := Lib.hid hF
  have HAl : Hid (∀ u s, RW u g { D with steps := s } vl vd vs → Calls Tryz.prog 29 #[.pointer (some ⟨g, 0, none⟩)] u fun e w' => ∃ v, e = .returned (.tuple #[v, .int .i64 (runE D)]) ∧ OwnX 14 cSt 52 w' u.heap.size v (allN D.L).out ∧ Below u.heap.size u w') := Lib.hid (fun u s hu => hG u g { D with steps := s } vl vd vs hu hnod hW hn hok)
  have HRD : Hid (runD D = { D with dirty := [], begun := decide (runE D = 0), sts := if runE D = 0 then (allN D.L).out else [], steps := D.steps + (touchN D).length }) := Lib.hid rfl
  obtain ⟨R, hR⟩ : ∃ R, R = touchN D := ⟨_, rfl⟩
  obtain ⟨E, hE⟩ : ∃ E, E = runE D := ⟨_, rfl⟩
  obtain ⟨D9, hD9⟩ : ∃ D9, D9 = runD D := ⟨_, rfl⟩
  rw [← hR] at HTo htl HRD ⊢
  rw [← hE] at HAl HRD ⊢
  rw [← hD9] at HRD ⊢
  clear h hF hnod hW hok hR hE hD9 hdn
  go_enter Tryz.func9, Tryz.ntmps9
  go_wp2_with fail
  refine HTo.out.mono ?_
  rintro e w1 ⟨v1, rfl, hlr, b1⟩
  obtain ⟨a1, k1, hv1, r1, n1⟩ := hlr
  subst hv1
  have HR1 := Lib.hid (And.intro r1 n1)
  have HB1 := Lib.hid b1
  have h1 := H.out.keep b1
  obtain ⟨s1, s2⟩ := h1.setT (D.steps + R.length) (z := (D.steps : Int) + (R.length : Int)) (by omega)
  have HS1 := Lib.hid (And.intro s1 s2)
  have c4 : w1.cell? ⟨g, 4, none⟩ = some (.int .i64 (D.steps : Int)) := h1.blk.cell 4
  have f4 : w1.frozen? ⟨g, 4, none⟩ = false := h1.blk.frozen 4
  have hg := h1.blk.lt
  obtain ⟨rl, hrl⟩ : ∃ rl, rl = R.length := ⟨_, rfl⟩
  obtain ⟨st, hste⟩ : ∃ st, st = D.steps := ⟨_, rfl⟩
  rw [← hrl] at HS1 HR1 htl HRD ⊢
  rw [← hste] at HS1 hst c4
  have HST := Lib.hid hste
  have HRl := Lib.hid hrl
  have hws : IntKind.i64.wrap ((st : Int) + (rl : Int)) = (st : Int) + (rl : Int) := by rw [IntKind.wrap_i64]; omega
  clear r1 n1 b1 h1 s1 s2 hrl hste HTo
  go_upto_region 3 with fail
  refine fin (fun W => RW W g { D with steps := st + rl } vl vd vs ∧ Fr w1 W (fun b => b = g)) HS1.out ?_
  clear HS1 c4 f4 hg
  rintro W ⟨hw, hfr⟩
  have HW := Lib.hid hw
  have HFr := Lib.hid hfr
  have HA := Lib.hid (HAl.out W _ hw)
  clear hw hfr HAl
  go_wp2_with fail
  refine HA.out.mono ?_
  rintro e w2 ⟨v2, rfl, o2, b2⟩
  obtain ⟨a2, k2, hv2, -, -, -⟩ := o2.row cSt_len
  have HO2 := Lib.hid o2
  have h2 := HW.out.keep b2
  have H2 := Lib.hid h2
  have HFr2 : Hid (Fr w w2 F) := Lib.hid (Fr.behind (Fr.two (Fr.behind (fr_refl10 w F) HB1.out) HFr.out (fun q e => by rw [e]; exact Or.inl ((HFt.out g).2 (Or.inl rfl)))) b2)
  have HRow2 : Hid (Row w2 a1 rl R ∧ (rl = 0 ∨ ∀ ad, a1 = some ad → w.heap.size ≤ ad.block)) := Lib.hid ⟨by
    have q := row_frame HR1.out.1 (F := fun b => b = g) (HR1.out.2.imp id (fun q ad e hf => by have z1 := q ad e; have z2 := H.out.blk.lt; have z3 : ad.block = g := hf; omega)) HFr.out
    exact row_keep q b2, HR1.out.2⟩
  have HCl := Lib.hid (h2.clean (decide (E = 0)))
  obtain ⟨n2, hn2⟩ : ∃ n2, n2 = (allN D.L).out.length := ⟨_, rfl⟩
  rw [← hn2] at hv2
  subst hv2
  have c1 : w2.cell? ⟨g, 1, none⟩ = some vd := h2.blk.cell 1
  have f1 : w2.frozen? ⟨g, 1, none⟩ = false := h2.blk.frozen 1
  have f2 : w2.frozen? ⟨g, 2, none⟩ = false := h2.blk.frozen 2
  have f3 : w2.frozen? ⟨g, 3, none⟩ = false := h2.blk.frozen 3
  have c2 : w2.cell? ⟨g, 2, none⟩ = some (.bool D.begun) := h2.blk.cell 2
  have c3 : w2.cell? ⟨g, 3, none⟩ = some vs := h2.blk.cell 3
  have hg2 := h2.blk.lt
  clear o2 b2 h2 HA hn2
  have HRw9 : Hid (∀ W, Fr w2 W (fun b => b = g) → LRes w W R (.slice a1 rl k1)) := Lib.hid (fun W q => ⟨a1, k1, by rw [← HRl.out], by
    rw [← HRl.out]
    exact row_frame HRow2.out.1 (F := fun b => b = g) (HRow2.out.2.imp id (fun q ad e hf => by have z1 := q ad e; have z2 := H.out.blk.lt; have z3 : ad.block = g := hf; omega)) q, by rw [← HRl.out]; exact HRow2.out.2⟩)
  by_cases hE0 : E = 0
  · subst hE0
    have HD9 : Hid (D9 = { D with dirty := [], begun := true, sts := (allN D.L).out, steps := st + rl }) := Lib.hid (by rw [HRD.out, if_pos rfl, HST.out]; rfl)
    go_upto_region 7 with fail
    refine fin (fun W => RW W g { D with dirty := [], begun := true, sts := [], steps := st + rl } vl (.slice none 0 0) (.slice none 0 0) ∧ Fr w2 W (fun b => b = g)) HCl.out ?_
    clear HCl c1 c2 c3 f1 f2 f3 hg2
    rintro W3 ⟨hw3, hf3⟩
    have HF3 := Lib.hid hf3
    have hoS : OwnX 14 cSt 52 W3 W.heap.size (.slice a2 n2 k2) (allN D.L).out := HO2.out.same (fun q e => hf3.2.2.2.2 q (HO2.out.lt q e).2 (fun z => by have z1 := (HO2.out.lt q e).1; have z2 := HW.out.blk.lt; have z3 : q = g := z; omega))
    have HSt := Lib.hid (hw3.setS hoS (fun q e => by
      have z1 := (HO2.out.lt q e).1
      refine ⟨fun z => by have z2 := HW.out.blk.lt; omega, fun z => by have z2 := (HW.out.nod.lt q z).2; omega, fun z => by cases z⟩))
    have c3 : W3.cell? ⟨g, 3, none⟩ = some (.slice none 0 0) := hw3.blk.cell 3
    have f3 : W3.frozen? ⟨g, 3, none⟩ = false := hw3.blk.frozen 3
    have hg3 := hw3.blk.lt
    clear hw3 hf3 hoS
    go_upto_region 9 with fail
    refine fin (fun W => RW W g { D with dirty := [], begun := true, sts := (allN D.L).out, steps := st + rl } vl (.slice none 0 0) (.slice a2 n2 k2) ∧ Fr W3 W (fun b => b = g)) HSt.out ?_
    clear HSt c3 f3 hg3
    rintro W4 ⟨hw4, hf4⟩
    have hfr4 : Fr w2 W4 (fun b => b = g) := Fr.two HF3.out hf4 (fun q e => Or.inl e)
    have HE9 : Hid (LRes w W4 R (.slice a1 rl k1) ∧ ChX RWB w W4 g F D9) := Lib.hid ⟨HRw9.out W4 hfr4, by
      rw [HD9.out]
      refine ⟨_, ⟨_, _, _, hw4, fun _ => Iff.rfl⟩, Fr.two HFr2.out hfr4 (fun q e => by rw [e]; exact Or.inl ((HFt.out g).2 (Or.inl rfl))), ?_⟩
      rintro q (e | e | e | e)
      · exact Or.inl ((HFt.out q).2 (Or.inl e))
      · exact Or.inl ((HFt.out q).2 (Or.inr (Or.inl e)))
      · cases e
      · exact Or.inr (by have z1 := (HO2.out.lt q e).1; have z2 := HFr.out.2.2.2.1; have z3 := HB1.out.size; omega)⟩
    clear hw4 hf4 hfr4
    go_wp2
    go_ret2
    exact ⟨_, rfl, HE9.out⟩
  · have hE1 : (E == 0) = false := by simpa using hE0
    have HD9 : Hid (D9 = { D with dirty := [], begun := false, sts := [], steps := st + rl }) := Lib.hid (by rw [HRD.out, if_neg hE0, HST.out, decide_eq_false hE0])
    rw [decide_eq_false hE0] at HCl
    go_upto_region 7 with fail
    refine fin (fun W => RW W g { D with dirty := [], begun := false, sts := [], steps := st + rl } vl (.slice none 0 0) (.slice none 0 0) ∧ Fr w2 W (fun b => b = g)) HCl.out ?_
    clear HCl c1 c2 c3 f1 f2 f3 hg2
    rintro W4 ⟨hw4, hf4⟩
    have HE9 : Hid (LRes w W4 R (.slice a1 rl k1) ∧ ChX RWB w W4 g F D9) := Lib.hid ⟨HRw9.out W4 hf4, by
      rw [HD9.out]
      refine ⟨_, ⟨_, _, _, hw4, fun _ => Iff.rfl⟩, Fr.two HFr2.out hf4 (fun q e => by rw [e]; exact Or.inl ((HFt.out g).2 (Or.inl rfl))), ?_⟩
      rintro q (e | e | e | e)
      · exact Or.inl ((HFt.out q).2 (Or.inl e))
      · exact Or.inl ((HFt.out q).2 (Or.inr (Or.inl e)))
      · cases e
      · cases e⟩
    clear hw4 hf4
    go_wp2
    go_ret2
    exact ⟨_, rfl, HE9.out⟩
end
end Go.Proofs.YtdndafdninnjfaaGreat
/-
  What the reference's State of layer 10 answers.
-/
namespace Go.Proofs.YtdndafdninnjfaaGreat
open Go.RowKit

section
variable {w : World} {g : Nat} {D : FD} {vl vd vs : Value}
theorem RW.states (h : RW w g D vl vd vs) : ∃ a cap, vs = .slice a D.sts.length cap ∧ ∀ u, Below w.heap.size w u → u.cell? ⟨g, 3, none⟩ = some (.slice a D.sts.length cap) ∧ u.cell? ⟨g, 2, none⟩ = some (.bool D.begun) ∧ g < u.heap.size ∧ SRow u a D.sts.length D.sts := by
  obtain ⟨a, cap, hv, _, _, hr⟩ := h.sts.row cSt_len
  exact ⟨a, cap, hv, fun u q => ⟨by have := (h.keep q).blk.cell 3; rw [hv] at this; exact this, (h.keep q).blk.cell 2, (h.keep q).blk.lt, hr.keep q⟩⟩
end
end Go.Proofs.YtdndafdninnjfaaGreat
/-
  Of the reference's All of layer 10: ways that meet; who stands in the order.
-/
namespace Go.Proofs.YtdndafdninnjfaaGreat
open Go.RowKit

/-- ways that meet, whatever their scratch -/
theorem wp_join {P : Program} {c : Code} {a : Go.Act} {w : World} {Q : Exit → Go.Act → World → Prop} (fr : Nat → (Nat → Value) → Go.Act) (Φ : Nat → World → Prop)
    (h1 : c.wp P (fun e a' w' => e = .normal ∧ ∃ g f, a' = fr g f ∧ Φ g w') a w) (h2 : ∀ g f w', Φ g w' → Q .normal (fr g f) w') : c.wp P Q a w :=
  Code.wp_mono (fun e a' w' h => by
    obtain ⟨rfl, g, f, rfl, hp⟩ := h
    exact h2 g f w' hp) h1
theorem mk_join {fr : Nat → (Nat → Value) → Go.Act} {Φ : Nat → World → Prop} {a' : Go.Act} {w' : World} (g : Nat) (hp : Φ g w') (h : a' = fr g (fun i => a'.tmps.getD i undef)) : (Exit.normal = .normal) ∧ ∃ g f, a' = fr g f ∧ Φ g w' := ⟨rfl, g, _, h, hp⟩
def zNd : Nd := ⟨0, 0, fun _ => 0, false⟩
theorem nx_sizea (n : Nd) : (Tryz.prog.info? 84).map (·.size) = some (cNd n).toArray.size := by kernel_rfl
theorem fold_step {L : List Nd} {O : List Int} {j : Nat} {x : Int} (h : O[j]? = some x) (s : Acc) : (O.take (j + 1)).foldl (allA L) s = allA L ((O.take j).foldl (allA L) s) x := by
  rw [List.take_add_one, h, List.foldl_append]
  rfl
/-- who stands in the order is a node -/
theorem order_nd {L : List Nd} (hW : WF (treesN L)) {x : Int} (hx : x ∈ orderN L) : ∃ n, elF Nd.id L x = some n := by
  have hin : x ∈ L.map Nd.id := by
    obtain ⟨y, hy, hz⟩ := (mem_undL hW).1 hx
    rcases hz with rfl | hz
    · exact (sortI_perm _).mem_iff.1 hy
    · have h1 := abv_fst hW hz
      rw [trees_fst] at h1
      obtain ⟨m, hm, e⟩ := List.mem_map.1 h1
      exact List.mem_map.2 ⟨m, (List.mem_filter.1 hm).1, e⟩
  cases h : elF Nd.id L x with
  | some n => exact ⟨n, rfl⟩
  | none =>
    obtain ⟨m, hm, e⟩ := List.mem_map.1 hin
    have := List.find?_eq_none.1 h m hm
    simp [e] at this
end Go.Proofs.YtdndafdninnjfaaGreat
/-
  What the reference's All of layer 10 answers: all states, by definition.
-/
namespace Go.Proofs.YtdndafdninnjfaaGreat
open Go.RowKit

section
variable {w : World} {g : Nat} {D : FD} {vl vd vs : Value}
set_option maxHeartbeats 16000000 in
set_option maxRecDepth 100000 in
theorem gall_any (h : RW w g D vl vd vs) (hW : WF (treesN D.L)) (hn : D.L.length ≤ 1000) (hok : ∀ n ∈ D.L, okM n.pl = true) :
    Calls Tryz.prog 29 #[.pointer (some ⟨g, 0, none⟩)] w fun e w' => ∃ v, e = .returned (.tuple #[v, .int .i64 (allN D.L).e]) ∧ OwnX 14 cSt 52 w' w.heap.size v (allN D.L).out ∧ Below w.heap.size w w' := by
  have HTr := Lib.hid (gtrees_any h hn)
  have HNa : Hid (∀ u, Below w.heap.size w u → Calls Tryz.prog 50 #[.pointer (some ⟨g, 0, none⟩)] u fun e w' => ∃ v, e = .returned v ∧ LRes u w' (namesN D.L) v ∧ Below u.heap.size u w') := Lib.hid (fun u q => gnames_any (h.keep q) hn)
  have hnl : (namesN D.L).length ≤ 1000 := by
    unfold namesN
    rw [(sortI_perm _).length_eq, List.length_map]
    exact hn
  have HUn : Hid (∀ u gm v a n cap, RF u gm v (treesN D.L) → Row u a n (namesN D.L) → n ≤ 1000 → Calls Tryz.prog 52 #[.pointer (some ⟨gm, 0, none⟩), .slice a n cap] u fun e w' => ∃ v, e = .returned v ∧ LRes u w' (orderN D.L) v ∧ Below u.heap.size u w') := Lib.hid (fun u gm v a n cap hf hr hl => runder_any hf hW (Nat.le_trans (trees_len _) hn) a n cap _ hr (Nat.le_trans hl (by omega)))
  have HAb : Hid (∀ u gm v x, RF u gm v (treesN D.L) → Calls Tryz.prog 55 #[.pointer (some ⟨gm, 0, none⟩), .int .i64 x] u fun e w' => ∃ a cap, e = .returned (.slice a (abv (treesN D.L) x).length cap) ∧ Below u.heap.size u w') := Lib.hid (fun u gm v x hf => (rabove_any hf hW (Nat.le_trans (trees_len _) hn) x).mono (by
    rintro e w' ⟨v, rfl, ⟨a, cap, rfl, _⟩, hb⟩
    exact ⟨a, cap, rfl, hb⟩))
  obtain ⟨na, nc, -, hrd⟩ := h.nodes
  have HRd := Lib.hid hrd
  have hol : (orderN D.L).length ≤ 2000 := by
    have h1 := undL_len10 hW (namesN D.L)
    have h2 := trees_len D.L
    unfold orderN
    omega
  have HOn : Hid (∀ x ∈ orderN D.L, ∃ n, elF Nd.id D.L x = some n) := Lib.hid (fun x hx => order_nd hW hx)
  have HOk := Lib.hid hok
  have HAbl : Hid (∀ x, (abv (treesN D.L) x).length ≤ 1000) := Lib.hid (fun x => Nat.le_trans (abv_len hW x) (Nat.le_trans (trees_len _) hn))
  have HAl : Hid (allN D.L = (orderN D.L).foldl (allA D.L) ⟨[], -1, 0⟩) := Lib.hid rfl
  obtain ⟨L, hLe⟩ : ∃ L, L = D.L := ⟨_, rfl⟩
  rw [← hLe] at HTr HNa hnl HUn HAb HRd hol HOn HOk HAbl HAl hn ⊢
  obtain ⟨T, hT⟩ : ∃ T, T = treesN L := ⟨_, rfl⟩
  obtain ⟨O, hO⟩ : ∃ O, O = orderN L := ⟨_, rfl⟩
  obtain ⟨AN, hAN⟩ : ∃ AN, AN = allN L := ⟨_, rfl⟩
  have HT := Lib.hid hT
  rw [← hT] at HTr HUn HAb HAbl
  rw [← hO] at HUn hol HOn HAl
  rw [← hAN] at HAl ⊢
  obtain ⟨n, hne⟩ : ∃ n, n = L.length := ⟨_, rfl⟩
  rw [← hne] at HRd hn
  have HN := Lib.hid hne
  have HHa : Hid (∀ u y, Below w.heap.size w u → Calls Tryz.prog 12 #[.slice na n nc, .int .i64 y] u fun e w' => e = .returned (.int .i64 (hangs L y)) ∧ u = w') := Lib.hid (fun u y q => ghangs_any na n nc L y u (HRd.out u q).2.2)
  have HAt : Hid (∀ u y, Below w.heap.size w u → Calls Tryz.prog 30 #[.slice na n nc, .int .i64 y] u fun e w' => e = .returned (.int .i64 (ixF Nd.id L y)) ∧ u = w') := Lib.hid (fun u y q => gat_any na n nc L y u (HRd.out u q).2.2)
  have hg0 := (HRd.out w (Below.refl _ _)).2.1
  clear h hW hok hrd hLe hT hO hAN hne
  go_enter Tryz.func29, Tryz.ntmps29
  go_wp2_with fail
  refine HTr.out.mono ?_
  rintro e w1 ⟨gm, vm, rfl, hf1, b1⟩
  have HF1 := Lib.hid hf1
  have HB1 := Lib.hid b1
  have HNb := Lib.hid (HNa.out w1 b1)
  clear hf1 b1 HTr HNa
  go_wp2_with fail
  refine HNb.out.mono ?_
  rintro e w2 ⟨v2, rfl, ⟨a2, c2, hv2, r2, -⟩, b2⟩
  subst hv2
  obtain ⟨n2, hn2⟩ : ∃ n2, n2 = (namesN L).length := ⟨_, rfl⟩
  rw [← hn2] at hnl r2 ⊢
  have HU := Lib.hid (HUn.out w2 gm vm a2 n2 c2 (HF1.out.keep b2) r2 hnl)
  replace HF1 := Lib.hid (HF1.out.keep b2)
  replace HB1 := Lib.hid (bthen HB1.out b2)
  clear b2 r2 HNb hn2 HUn
  go_wp2_with fail
  refine HU.out.mono ?_
  rintro e w3 ⟨v3, rfl, ⟨ao, co, hv3, r3, -⟩, b3⟩
  subst hv3
  obtain ⟨N, hNe⟩ : ∃ N, N = O.length := ⟨_, rfl⟩
  rw [← hNe] at hol r3 ⊢
  have HNl := Lib.hid hNe
  have HR3 := Lib.hid r3
  have hNbig := r3.2.1
  have HF3 := Lib.hid (HF1.out.keep b3)
  have HB3 := Lib.hid (bthen HB1.out b3)
  clear b3 r3 HU HF1 HB1 hNe
  go_wp2
  go_loopw [6, 7, 8, 9, 10, 11, 12, 13, 14] (fun v6 v7 v8 i _ _ _ _ _ wr => ∃ (j : Nat) (SO : List Stt) (sl se : Int), j ≤ N ∧ i = .int .i64 j ∧ (⟨SO, sl, se⟩ : Acc) = (O.take j).foldl (allA L) ⟨[], -1, 0⟩ ∧ v7 = .int .i64 sl ∧ v8 = .int .i64 se ∧ OwnX 14 cSt 52 wr w3.heap.size v6 SO ∧ (∀ s ∈ SO, okM s.wo = true) ∧ SO.length ≤ j ∧ Below w3.heap.size w3 wr) (fun _ _ _ i _ _ _ _ _ _ => N - (ivl i).toNat)
  case atStart => exact ⟨0, [], -1, 0, by omega, rfl, by rw [List.take_zero]; rfl, rfl, rfl, OwnX.nil _ _ _ _ _, fun s hs => (by cases hs), Nat.le_refl _, Below.refl _ _⟩
  case round =>
    obtain ⟨j, SO, sl, se, hj, rfl, hS, rfl, rfl, ho, hwok, hsl, hb⟩ := hrel
    have HS := Lib.hid hS
    have HO := Lib.hid ho
    have HWk := Lib.hid hwok
    have HB := Lib.hid hb
    have HR := Lib.hid (row_keep HR3.out hb)
    have HBw := Lib.hid (bthen HB3.out hb)
    have HF := Lib.hid (HF3.out.keep hb)
    clear hS ho hwok hb
    by_cases hlt : j < N
    · obtain ⟨ob, oo, x, rfl, hx, cx⟩ := row_at HR.out hlt
      have hob := World.block_lt_of_cell? _ _ cx
      obtain ⟨nd, hnd⟩ := HOn.out x (List.mem_of_getElem? hx)
      obtain ⟨k0, hk0, hk1, hk2, hid⟩ := ix_some hnd
      have HStep := Lib.hid (fold_step (L := L) hx ⟨[], -1, 0⟩)
      rw [← HS.out] at HStep
      have hkn : k0 < n := by rw [HN.out]; exact hk2
      obtain ⟨c0, hg, hnr⟩ := HRd.out wr HBw.out
      obtain ⟨nb, no, nd', rfl, hnb, hx', hr'⟩ := hnr.at_ hkn
      have e9 : nd' = nd := by rw [hk1] at hx'; injection hx' with z; exact z.symm
      subst e9
      have HNX := Lib.hid (nx_any nd')
      have HNa2 := Lib.hid (nx_sizea nd')
      have HRg : Hid (wr.rangeAt nb (no + k0 * 15) (cNd nd')) := Lib.hid hr'
      have HAtx : Hid (∀ u, Below wr.heap.size wr u → Calls Tryz.prog 30 #[.slice (some ⟨nb, no, none⟩) n nc, .int .i64 x] u fun e w' => e = .returned (.int .i64 (k0 : Int)) ∧ u = w') := Lib.hid (fun u q => by rw [← hk0]; exact HAt.out u x (bthen HBw.out q))
      obtain ⟨XM, hXM⟩ : ∃ XM, XM = cNd nd' := ⟨_, rfl⟩
      have HXM := Lib.hid hXM
      rw [← hXM] at HRg HNX HNa2
      have HNd := Lib.hid hnd
      have HId := Lib.hid hid
      have HOn1 : Hid (XM.toArray.all (·.oneCell') = true) := Lib.hid (all_oneCell_toArray HNX.out.one)
      have j0 : (0 : Int) ≤ (j : Int) := by omega
      have j1 : (j : Int) < (N : Int) := by omega
      have k00 : (0 : Int) ≤ (k0 : Int) := by omega
      have k01 : (k0 : Int) < (n : Int) := by omega
      have hszj : w3.heap.size ≤ wr.heap.size := HB.out.size
      have CA := Lib.hid (And.intro c0 (And.intro cx HRg.out))
      have hal : Below wr.heap.size wr (wr.drew.alloc (.cells (cNd zNd).toArray 84)) := bthen (below_drew9f wr) (alloc_below _ _)
      have CB : Hid ((wr.drew.alloc (.cells (cNd zNd).toArray 84)).cell? ⟨g, 0, none⟩ = some (.slice (some ⟨nb, no, none⟩) n nc) ∧ (wr.drew.alloc (.cells (cNd zNd).toArray 84)).cell? ⟨ob, oo + j, none⟩ = some (.int .i64 x) ∧ (wr.drew.alloc (.cells (cNd zNd).toArray 84)).rangeAt nb (no + k0 * 15) XM) := Lib.hid ⟨cell_keep c0 hal, cell_keep cx hal, range_same HRg.out (hal.block nb hnb)⟩
      have HTh : Hid ((wr.drew.alloc (.cells (cNd zNd).toArray 84)).there wr.heap.size 0 XM.toArray.size) := Lib.hid (blk_there (Blk.new wr.drew _ _) (by rw [List.size_toArray, HNX.out.len]; exact Nat.le_refl 15))
      have hbs : Below wr.heap.size wr ((wr.drew.alloc (.cells (cNd zNd).toArray 84)).setCells wr.heap.size 0 XM) := below_setCells XM hal (Nat.le_refl _)
      have CC : Hid (((wr.drew.alloc (.cells (cNd zNd).toArray 84)).setCells wr.heap.size 0 XM).cell? ⟨g, 0, none⟩ = some (.slice (some ⟨nb, no, none⟩) n nc) ∧ ((wr.drew.alloc (.cells (cNd zNd).toArray 84)).setCells wr.heap.size 0 XM).cell? ⟨ob, oo + j, none⟩ = some (.int .i64 x) ∧ ((wr.drew.alloc (.cells (cNd zNd).toArray 84)).setCells wr.heap.size 0 XM).rangeAt nb (no + k0 * 15) XM) := Lib.hid ⟨cell_keep c0 hbs, cell_keep cx hbs, range_same HRg.out (hbs.block nb hnb)⟩
      have HPh : Hid (Blk ((wr.drew.alloc (.cells (cNd zNd).toArray 84)).setCells wr.heap.size 0 XM) wr.heap.size 84 XM.toArray ∧ Below wr.heap.size wr ((wr.drew.alloc (.cells (cNd zNd).toArray 84)).setCells wr.heap.size 0 XM) ∧ wr.heap.size ≤ wr.heap.size) := Lib.hid ⟨blk_over (Blk.new wr.drew _ _) (by rw [HNX.out.len]; rfl), hbs, Nat.le_refl _⟩
      clear c0 cx hnr hr' hx' hx hk0 hk1 hk2 hid hnd hXM hbs
      go_upto_region 9 with fail
      refine wp_join (fun gx f => { tmps := #[.pointer (some ⟨g, 0, none⟩), undef, .slice none 0 0, .int .i64 0, .pointer (some ⟨gm, 0, none⟩), .slice (some ⟨ob, oo, none⟩) N co, u6, .int .i64 sl, .int .i64 se, .int .i64 j, .pointer (some ⟨gx, 0, none⟩), u11, u12, u13, u14, .pointer (some ⟨g, 0, none⟩), .pointer (some ⟨gm, 0, none⟩), .pointer (some ⟨gm, 0, none⟩), .pointer (some ⟨g, 0, none⟩), .slice a2 n2 c2, .slice (some ⟨ob, oo, none⟩) N co, f 21, f 22, f 23, f 24, f 25, f 26, f 27, f 28, f 29, f 30, f 31, f 32, f 33, f 34, f 35, f 36, f 37, f 38, f 39, f 40, f 41, f 42, f 43, f 44, f 45, f 46, f 47, f 48, f 49, f 50, f 51, f 52, f 53, f 54, f 55, f 56, f 57, f 58, f 59, f 60, f 61, f 62, f 63, f 64, f 65, f 66, f 67, f 68, f 69, f 70, f 71, f 72, f 73, f 74, f 75, f 76, f 77, f 78, f 79, f 80, f 81, f 82, f 83, f 84, f 85, f 86, f 87, f 88, f 89, f 90, f 91, f 92, f 93, f 94, f 95, f 96, f 97, f 98, undef, undef], defers := [] }) (fun gx W => Blk W gx 84 XM.toArray ∧ Below wr.heap.size wr W ∧ wr.heap.size ≤ gx) ?_ ?_
      · clear HRg
        refine wp_region_held_drew (S := fun w' => w'.cell? ⟨g, 0, none⟩ = some (.slice (some ⟨nb, no, none⟩) n nc) ∧ w'.cell? ⟨ob, oo + j, none⟩ = some (.int .i64 x) ∧ w'.rangeAt nb (no + k0 * 15) XM) (by kernel_rfl) (CA.out) (fun hHeld => ?_)
        refine wpAnyH_take (i := 0) (v := ?_) rfl (by kernel_rfl) (by kernel_rfl) (by kernel_rfl) (fun _ _ _ h => (by cases h.1)) (Or.inl ⟨by rfl, ?_⟩) hHeld ?_
        rotate_left
        · intro w hSw
          obtain ⟨s0, s1, s2⟩ := hSw
          go_simp
          with_reducible rfl
        simp only [Act.put, List.getElem_toArray, List.getElem_cons_zero, List.setIfInBounds_toArray, List.set_cons_zero, List.set_cons_succ]
        refine wpAnyH_take (i := 1) (v := ?_) rfl (by kernel_rfl) (by kernel_rfl) (by kernel_rfl) (fun _ _ _ h => (by cases h.1)) (Or.inl ⟨by rfl, ?_⟩) hHeld ?_
        rotate_left
        · intro w hSw
          obtain ⟨s0, s1, s2⟩ := hSw
          go_simp
          with_reducible rfl
        simp only [Act.put, List.getElem_toArray, List.getElem_cons_zero, List.getElem_cons_succ, List.setIfInBounds_toArray, List.set_cons_zero, List.set_cons_succ]
        refine wpAnyH_take (i := 2) (v := ?_) rfl (by kernel_rfl) (by kernel_rfl) (by kernel_rfl) (fun _ _ _ h => (by cases h.1)) (Or.inl ⟨by rfl, ?_⟩) hHeld ?_
        rotate_left
        · intro w hSw
          obtain ⟨s0, s1, s2⟩ := hSw
          go_simp
          with_reducible rfl
        simp only [Act.put, List.getElem_toArray, List.getElem_cons_zero, List.getElem_cons_succ, List.setIfInBounds_toArray, List.set_cons_zero, List.set_cons_succ]
        refine wpAnyH_take (i := 3) (v := ?_) rfl (by kernel_rfl) (by kernel_rfl) (by kernel_rfl) (fun _ _ _ h => (by cases h.1)) (Or.inl ⟨by rfl, ?_⟩) hHeld ?_
        rotate_left
        · intro w hSw
          obtain ⟨s0, s1, s2⟩ := hSw
          go_simp
          with_reducible rfl
        simp only [Act.put, List.getElem_toArray, List.getElem_cons_zero, List.getElem_cons_succ, List.setIfInBounds_toArray, List.set_cons_zero, List.set_cons_succ]
        refine wpAnyH_take (i := 4) (v := ?_) rfl (by kernel_rfl) (by kernel_rfl) (by kernel_rfl) (fun _ _ _ h => (by cases h.1)) (Or.inl ⟨by rfl, ?_⟩) hHeld ?_
        rotate_left
        · intro w hSw
          obtain ⟨s0, s1, s2⟩ := hSw
          go_simp
          with_reducible rfl
        simp only [Act.put, List.getElem_toArray, List.getElem_cons_zero, List.getElem_cons_succ, List.setIfInBounds_toArray, List.set_cons_zero, List.set_cons_succ]
        refine wpAnyH_take (i := 5) (v := ?_) rfl (by kernel_rfl) (by kernel_rfl) (by kernel_rfl) (fun _ _ _ h => (by cases h.1)) (Or.inl ⟨by rfl, ?_⟩) hHeld ?_
        rotate_left
        · intro w hSw
          obtain ⟨s0, s1, s2⟩ := hSw
          go_simp
          with_reducible rfl
        simp only [Act.put, List.getElem_toArray, List.getElem_cons_zero, List.getElem_cons_succ, List.setIfInBounds_toArray, List.set_cons_zero, List.set_cons_succ]
        refine wpAnyH_take (i := 6) (v := ?_) rfl (by kernel_rfl) (by kernel_rfl) (by kernel_rfl) (fun _ _ _ h => (by cases h.1)) (Or.inl ⟨by rfl, ?_⟩) hHeld ?_
        rotate_left
        · intro w hSw
          obtain ⟨s0, s1, s2⟩ := hSw
          go_simp
          with_reducible rfl
        simp only [Act.put, List.getElem_toArray, List.getElem_cons_zero, List.getElem_cons_succ, List.setIfInBounds_toArray, List.set_cons_zero, List.set_cons_succ]
        refine wpAnyH_take (i := 7) (v := ?_) rfl (by kernel_rfl) (by kernel_rfl) (by kernel_rfl) (fun _ _ _ h => (by cases h.1)) (Or.inl ⟨by rfl, ?_⟩) hHeld ?_
        rotate_left
        · intro w hSw
          obtain ⟨s0, s1, s2⟩ := hSw
          go_simp
          with_reducible rfl
        simp only [Act.put, List.getElem_toArray, List.getElem_cons_zero, List.getElem_cons_succ, List.setIfInBounds_toArray, List.set_cons_zero, List.set_cons_succ]
        refine wpAnyH_take (i := 8) (v := ?_) rfl (by kernel_rfl) (by kernel_rfl) (by kernel_rfl) (fun _ _ _ h => (by cases h.1)) (Or.inl ⟨by rfl, ?_⟩) hHeld ?_
        rotate_left
        · intro w hSw
          obtain ⟨s0, s1, s2⟩ := hSw
          go_simp
          with_reducible rfl
        simp only [Act.put, List.getElem_toArray, List.getElem_cons_zero, List.getElem_cons_succ, List.setIfInBounds_toArray, List.set_cons_zero, List.set_cons_succ]
        refine wpAnyH_take (i := 9) (v := ?_) rfl (by kernel_rfl) (by kernel_rfl) (by kernel_rfl) (fun _ _ _ h => (by cases h.1)) (Or.inl ⟨by rfl, ?_⟩) hHeld ?_
        rotate_left
        · intro w hSw
          obtain ⟨s0, s1, s2⟩ := hSw
          go_simp
          with_reducible rfl
        simp only [Act.put, List.getElem_toArray, List.getElem_cons_zero, List.getElem_cons_succ, List.setIfInBounds_toArray, List.set_cons_zero, List.set_cons_succ]
        refine wpAnyH_take (i := 10) (v := ?_) rfl (by kernel_rfl) (by kernel_rfl) (by kernel_rfl) (fun _ _ _ h => (by cases h.1)) (Or.inl ⟨by rfl, ?_⟩) hHeld ?_
        rotate_left
        · intro w hSw
          obtain ⟨s0, s1, s2⟩ := hSw
          go_simp
          with_reducible rfl
        simp only [Act.put, List.getElem_toArray, List.getElem_cons_zero, List.getElem_cons_succ, List.setIfInBounds_toArray, List.set_cons_zero, List.set_cons_succ]
        refine wpAnyH_take (i := 11) (v := ?_) rfl (by kernel_rfl) (by kernel_rfl) (by kernel_rfl) (fun _ _ _ h => (by cases h.1)) (Or.inl ⟨by rfl, ?_⟩) hHeld ?_
        rotate_left
        · intro w hSw
          obtain ⟨s0, s1, s2⟩ := hSw
          go_simp
          with_reducible rfl
        simp only [Act.put, List.getElem_toArray, List.getElem_cons_zero, List.getElem_cons_succ, List.setIfInBounds_toArray, List.set_cons_zero, List.set_cons_succ]
        refine wpAnyH_ready (rs := [12, 15]) (by kernel_rfl) (by simp) ?_
        refine AllReadyH.cons rfl (fun K hK => ?_) (AllReadyH.cons rfl (fun K hK => ?_) AllReadyH.nil)
        · go_simp
          go_at_call 30
          refine (HAtx.out _ (below_drew9f wr)).mono ?_
          rintro e w9 ⟨rfl, rfl⟩
          go_wp2_with fail
          refine hK.out _ _ (CA.out) (fun hHeld => ?_)
          clear hK K
          refine wpAnyH_take (i := 13) (v := ?_) rfl (by kernel_rfl) (by kernel_rfl) (by kernel_rfl) (fun _ _ _ h => (by cases h.1)) (Or.inl ⟨by rfl, ?_⟩) hHeld ?_
          rotate_left
          · intro w hSw
            obtain ⟨s0, s1, s2⟩ := hSw
            go_simp
            with_reducible rfl
          simp only [Act.put, List.getElem_toArray, List.getElem_cons_zero, List.getElem_cons_succ, List.setIfInBounds_toArray, List.set_cons_zero, List.set_cons_succ]
          refine wpAnyH_take (i := 14) (v := _) rfl (by kernel_rfl) (by kernel_rfl) (by kernel_rfl) (fun _ _ _ h => (by cases h.1)) (yieldsIf_load_mid (by rfl) _ _ rfl _ _ rfl _ _ (fun _ h => h.2.2) Tryz.underlying84 rfl HNX.out.size) hHeld ?_
          simp only [Act.put, List.getElem_toArray, List.getElem_cons_zero, List.getElem_cons_succ, List.setIfInBounds_toArray, List.set_cons_zero, List.set_cons_succ]
          refine wpAnyH_ready (rs := [15]) (by kernel_rfl) (by simp) ?_
          refine AllReadyH.cons rfl (fun K hK => ?_) AllReadyH.nil
          go_simp
          refine hK.out _ _ (CB.out) (fun hHeld => ?_)
          clear hK K
          refine wpAnyH_ready (rs := [16]) (by kernel_rfl) (by simp) ?_
          refine AllReadyH.cons rfl (fun K hK => ?_) AllReadyH.nil
          rw [if_pos (by rfl)]
          refine wp_store_mid 84 (.tmp 10) (.tmp 41) rfl wr.heap.size 0 XM.toArray rfl rfl HTh.out HNa2.out HOn1.out ?_
          refine hK.out _ _ CC.out (fun hHeld => ?_)
          clear hK K
          refine wpAnyH_done (by kernel_rfl) ?_ _
          exact mk_join (fr := (fun gx f => { tmps := #[.pointer (some ⟨g, 0, none⟩), undef, .slice none 0 0, .int .i64 0, .pointer (some ⟨gm, 0, none⟩), .slice (some ⟨ob, oo, none⟩) N co, u6, .int .i64 sl, .int .i64 se, .int .i64 j, .pointer (some ⟨gx, 0, none⟩), u11, u12, u13, u14, .pointer (some ⟨g, 0, none⟩), .pointer (some ⟨gm, 0, none⟩), .pointer (some ⟨gm, 0, none⟩), .pointer (some ⟨g, 0, none⟩), .slice a2 n2 c2, .slice (some ⟨ob, oo, none⟩) N co, f 21, f 22, f 23, f 24, f 25, f 26, f 27, f 28, f 29, f 30, f 31, f 32, f 33, f 34, f 35, f 36, f 37, f 38, f 39, f 40, f 41, f 42, f 43, f 44, f 45, f 46, f 47, f 48, f 49, f 50, f 51, f 52, f 53, f 54, f 55, f 56, f 57, f 58, f 59, f 60, f 61, f 62, f 63, f 64, f 65, f 66, f 67, f 68, f 69, f 70, f 71, f 72, f 73, f 74, f 75, f 76, f 77, f 78, f 79, f 80, f 81, f 82, f 83, f 84, f 85, f 86, f 87, f 88, f 89, f 90, f 91, f 92, f 93, f 94, f 95, f 96, f 97, f 98, undef, undef], defers := [] })) (Φ := (fun gx W => Blk W gx 84 XM.toArray ∧ Below wr.heap.size wr W ∧ wr.heap.size ≤ gx)) wr.heap.size HPh.out rfl
        · go_simp
          refine hK.out _ _ (CB.out) (fun hHeld => ?_)
          clear hK K
          refine wpAnyH_ready (rs := [12]) (by kernel_rfl) (by simp) ?_
          refine AllReadyH.cons rfl (fun K hK => ?_) AllReadyH.nil
          go_simp
          go_at_call 30
          refine (HAtx.out _ (bthen (below_drew9f wr) (alloc_below _ _))).mono ?_
          rintro e w9 ⟨rfl, rfl⟩
          go_wp2_with fail
          refine hK.out _ _ (CB.out) (fun hHeld => ?_)
          clear hK K
          refine wpAnyH_take (i := 13) (v := ?_) rfl (by kernel_rfl) (by kernel_rfl) (by kernel_rfl) (fun _ _ _ h => (by cases h.1)) (Or.inl ⟨by rfl, ?_⟩) hHeld ?_
          rotate_left
          · intro w hSw
            obtain ⟨s0, s1, s2⟩ := hSw
            go_simp
            with_reducible rfl
          simp only [Act.put, List.getElem_toArray, List.getElem_cons_zero, List.getElem_cons_succ, List.setIfInBounds_toArray, List.set_cons_zero, List.set_cons_succ]
          refine wpAnyH_take (i := 14) (v := _) rfl (by kernel_rfl) (by kernel_rfl) (by kernel_rfl) (fun _ _ _ h => (by cases h.1)) (yieldsIf_load_mid (by rfl) _ _ rfl _ _ rfl _ _ (fun _ h => h.2.2) Tryz.underlying84 rfl HNX.out.size) hHeld ?_
          simp only [Act.put, List.getElem_toArray, List.getElem_cons_zero, List.getElem_cons_succ, List.setIfInBounds_toArray, List.set_cons_zero, List.set_cons_succ]
          refine wpAnyH_ready (rs := [16]) (by kernel_rfl) (by simp) ?_
          refine AllReadyH.cons rfl (fun K hK => ?_) AllReadyH.nil
          rw [if_pos (by rfl)]
          refine wp_store_mid 84 (.tmp 10) (.tmp 41) rfl wr.heap.size 0 XM.toArray rfl rfl HTh.out HNa2.out HOn1.out ?_
          refine hK.out _ _ CC.out (fun hHeld => ?_)
          clear hK K
          refine wpAnyH_done (by kernel_rfl) ?_ _
          exact mk_join (fr := (fun gx f => { tmps := #[.pointer (some ⟨g, 0, none⟩), undef, .slice none 0 0, .int .i64 0, .pointer (some ⟨gm, 0, none⟩), .slice (some ⟨ob, oo, none⟩) N co, u6, .int .i64 sl, .int .i64 se, .int .i64 j, .pointer (some ⟨gx, 0, none⟩), u11, u12, u13, u14, .pointer (some ⟨g, 0, none⟩), .pointer (some ⟨gm, 0, none⟩), .pointer (some ⟨gm, 0, none⟩), .pointer (some ⟨g, 0, none⟩), .slice a2 n2 c2, .slice (some ⟨ob, oo, none⟩) N co, f 21, f 22, f 23, f 24, f 25, f 26, f 27, f 28, f 29, f 30, f 31, f 32, f 33, f 34, f 35, f 36, f 37, f 38, f 39, f 40, f 41, f 42, f 43, f 44, f 45, f 46, f 47, f 48, f 49, f 50, f 51, f 52, f 53, f 54, f 55, f 56, f 57, f 58, f 59, f 60, f 61, f 62, f 63, f 64, f 65, f 66, f 67, f 68, f 69, f 70, f 71, f 72, f 73, f 74, f 75, f 76, f 77, f 78, f 79, f 80, f 81, f 82, f 83, f 84, f 85, f 86, f 87, f 88, f 89, f 90, f 91, f 92, f 93, f 94, f 95, f 96, f 97, f 98, undef, undef], defers := [] })) (Φ := (fun gx W => Blk W gx 84 XM.toArray ∧ Below wr.heap.size wr W ∧ wr.heap.size ≤ gx)) wr.heap.size HPh.out rfl
      · rintro gx f W ⟨hbk, hbw, hgx⟩
        clear CA CB CC HTh HPh hal HAtx HNa2 HOn1 HNX HRg
        obtain ⟨sa, scp, hu6, hsc0, hsc1, hsrow⟩ := HO.out.row cSt_len
        subst hu6
        obtain ⟨sn, hsn⟩ : ∃ sn, sn = SO.length := ⟨_, rfl⟩
        have HSn := Lib.hid hsn
        obtain ⟨z, hz⟩ : ∃ z, z = nd'.id := ⟨_, rfl⟩
        have HZ := Lib.hid hz
        have HBW := Lib.hid hbw
        have HOW := Lib.hid (HO.out.keep hbw)
        have HSR := Lib.hid (hsrow.keep hbw)
        have KN := Lib.hid hbk
        have zN := hbk.lt
        have cz : W.cell? ⟨gx, 0, none⟩ = some (.int .i64 z) := by
          rw [HXM.out] at hbk
          rw [hz]
          exact hbk.cell 0
        have cL : W.cell? ⟨g, 0, none⟩ = some (.slice (some ⟨nb, no, none⟩) n nc) := (HRd.out W (bthen HBw.out hbw)).1
        have zG : g < W.heap.size := (HRd.out W (bthen HBw.out hbw)).2.1
        have HH : Hid (∀ q, Calls Tryz.prog 12 #[.slice (some ⟨nb, no, none⟩) n nc, .int .i64 z] (W.drewN q) fun e w' => e = .returned (.int .i64 (hangs L z)) ∧ (W.drewN q) = w') := Lib.hid (fun q => HHa.out _ z (bthen (bthen HBw.out hbw) (Go.below_drewN (Below.refl _ _) q)))
        obtain ⟨p, hp⟩ : ∃ p, p = hangs L z := ⟨_, rfl⟩
        rw [← hp] at HH
        have HP := Lib.hid hp
        rw [← hsn] at hsl HOW HSR HO hsc0 ⊢
        clear hz hp hbk hbw hsrow hsn
        go_wp2
        go_quiet (first | (go_at_call 12; refine Calls.quiet_of_same ((HH.out _).mono fun _ _ z => ⟨z.1, z.2.symm⟩)))
        refine fin (fun W' => OwnX 14 cSt 52 W' w3.heap.size (.slice sa sn scp) SO ∧ SRow W' sa sn SO ∧ Blk W' gx 84 XM.toArray ∧ Below wr.heap.size wr W') ⟨HOW.out.keep (Go.below_drewN (Below.refl _ _) nq), HSR.out.keep (Go.below_drewN (Below.refl _ _) nq), KN.out.keep (Go.below_drewN (Below.refl _ _) nq), bthen HBW.out (Go.below_drewN (Below.refl _ _) nq)⟩ ?_
        clear HH cz cL zG zN HOW HSR KN HBW
        rintro V ⟨ho, hsr, kn, hb⟩
        have HOW := Lib.hid ho
        have HSR := Lib.hid hsr
        have KN := Lib.hid kn
        have HBW := Lib.hid hb
        have HFi := Lib.hid (gfind_any sa sn scp SO p V hsr)
        obtain ⟨kf, hkf⟩ : ∃ kf, kf = ixF Stt.id SO p := ⟨_, rfl⟩
        rw [← hkf] at HFi
        have HKf := Lib.hid hkf
        clear ho hsr kn hb hkf
        go_wp2_with fail
        refine HFi.out.mono ?_
        rintro e w8 ⟨rfl, rfl⟩
        clear HFi
        have hszV : w3.heap.size ≤ V.heap.size := Nat.le_trans hszj HBW.out.size
        have HBV := Lib.hid (bthen HB.out HBW.out)
        have hsl2 : sn ≤ 2000 := by omega
        obtain ⟨MB, hMB⟩ : ∃ MB, MB = lM nd'.pl := ⟨_, rfl⟩
        obtain ⟨hd2, hhd⟩ : ∃ hd2, hd2 = nd'.hid := ⟨_, rfl⟩
        have HMB := Lib.hid (mx_any nd'.pl)
        rw [← hMB] at HMB
        have HCN : Hid (∀ u, Blk u gx 84 XM.toArray → u.rangeAt gx 2 MB ∧ u.cell? ⟨gx, 0, none⟩ = some (.int .i64 z) ∧ u.cell? ⟨gx, 14, none⟩ = some (.bool hd2)) := Lib.hid (fun u k => by
          rw [HXM.out] at k
          rw [hMB, HZ.out, hhd]
          exact ⟨blk_range k 2 12, k.cell 0, k.cell 14⟩)
        have hokp : okM nd'.pl = true := HOk.out nd' (List.mem_of_find?_eq_some HNd.out)
        have HOkp := Lib.hid hokp
        clear hokp
        by_cases hp0 : p < 0
        · obtain ⟨st, hst⟩ : ∃ st : Stt, st = ⟨z, nd'.pl, !hd2⟩ := ⟨_, rfl⟩
          have HSt : Hid ((O.take (j + 1)).foldl (allA L) ⟨[], -1, 0⟩ = ⟨SO ++ [st], sl, se⟩) := Lib.hid (by
            rw [HStep.out]
            unfold allA
            rw [HNd.out]
            simp only []
            rw [← HZ.out, ← HP.out, if_pos hp0, hst, hhd])
          have HWs : Hid (∀ s ∈ SO ++ [st], okM s.wo = true) := Lib.hid (fun s hs => by
            rcases List.mem_append.1 hs with hs | hs
            · exact HWk.out s hs
            · obtain rfl : s = st := by simpa using hs
              rw [hst]
              exact HOkp.out)
          obtain ⟨XY, hXY⟩ : ∃ XY, XY = cSt st := ⟨_, rfl⟩
          have HY := Lib.hid (sx_any st)
          have HBs : Hid (∀ W, (Instr.build 52 #[(0, .int .i64 z), (1, .agg MB.toArray), (2, .bool (!hd2))]).run Tryz.prog W = .ok (.agg XY.toArray) W) := Lib.hid (fun W => by rw [hXY, hst, hMB]; exact b10state _ _ _ W)
          have HBl := Lib.hid (fun W => bs_state st W)
          rw [← hXY] at HY HBl
          have hml : XY.length = 14 := HY.out.len
          obtain ⟨r2, c0, c14⟩ := HCN.out V KN.out
          have R2 := Lib.hid r2
          have zN := KN.out.lt
          clear hst hXY r2 hMB hhd
          go_wp2_with (first
            | refine wpList_load_mid rfl 46 (.tmp 57) rfl gx 2 rfl MB _ R2.out Tryz.underlying46 rfl HMB.out.size ?_
            | refine wpList_bld3f rfl 52 (.tmp 56) (.tmp 58) (.tmp 61) rfl (.int .i64 z) (.agg MB.toArray) (.bool (!hd2)) (.agg XY.toArray) rfl rfl (by first | rfl | simp [Act.eval, Act.put]) HBs.out ?_
            | refine wpList_bs8 rfl 31 52 (.tmp 62) rfl XY rfl HBl.out ?_
            | (at_builtin; refine wpList_pushX rfl (.tmp 54) (.tmp 63) 31 112 (.agg (cSt default).toArray) rfl Tryz.underlying31 zS_info rfl (by decide) (by decide) cSt_len st (cSt_one st) rfl (HOW.out.keep (alloc_below _ _)) V.heap.size 1 rfl (by rw [← HY.out.eq]; exact blk_whole (Blk.new V _ _)) (by rw [← HSn.out]; exact hsl2) (by simp; omega) ?_))
          intro v' W2 k1 k2 k3
          have K : Hid (OwnX 14 cSt 52 W2 w3.heap.size v' (SO ++ [st]) ∧ Below w3.heap.size w3 W2) := Lib.hid (by
            refine ⟨k1, ?_⟩
            have hb1 := bthen HBV.out (alloc_below V (.cells XY.toArray 52))
            have hoW := HOW.out
            exact ⟨k2.os.trans hb1.os, k2.tape.trans hb1.tape, k2.output.trans hb1.output, Nat.le_trans hb1.size k2.size, fun q hq => (k2.block q (Nat.lt_of_lt_of_le hq hb1.size) (fun e => by have := (hoW.lt _ e.symm).1; omega)).trans (hb1.block q hq)⟩)
          clear k1 k2 k3
          go_wp2
          go_roundw
          case rel => exact ⟨j + 1, SO ++ [st], sl, se, by omega, by go_num, HSt.out.symm, rfl, rfl, K.out.1, HWs.out, by rw [List.length_append, ← HSn.out]; simp; omega, K.out.2⟩
          case measure => simp [ivl] <;> omega
        · have hp1 : ¬ p < 0 := hp0
          cases hel : elF Stt.id SO p with
          | none =>
            have hkn1 : kf = -1 := by rw [HKf.out]; exact ix_none hel
            have hk1 : kf < 0 := by omega
            have HSt : Hid ((O.take (j + 1)).foldl (allA L) ⟨[], -1, 0⟩ = ⟨SO, sl, se⟩) := Lib.hid (by
              rw [HStep.out]
              unfold allA
              rw [HNd.out]
              simp only []
              rw [← HZ.out, ← HP.out, if_neg hp0, hel])
            clear hel hkn1 hMB hhd
            go_wp2
            go_roundw
            case rel => exact ⟨j + 1, SO, sl, se, by omega, by go_num, HSt.out.symm, rfl, rfl, HOW.out, HWk.out, by rw [← HSn.out]; omega, HBV.out⟩
            case measure => simp [ivl] <;> omega
          | some u =>
            obtain ⟨ku, hku, hkat, hkl, hkid⟩ := ix_some hel
            have hkf2 : kf = (ku : Int) := by rw [HKf.out]; exact hku
            have hkl2 : ku < sn := by rw [HSn.out]; exact hkl
            obtain ⟨ub, uo, u', hsa, hubl, hux, hurg⟩ := HSR.out.at_ hkl2
            have e9 : u' = u := by rw [hkat] at hux; injection hux with z; exact z.symm
            subst e9 hsa hkf2
            obtain ⟨al, hal⟩ : ∃ al, al = (abv T z).length := ⟨_, rfl⟩
            have halb : al ≤ 1000 := by rw [hal]; exact HAbl.out z
            have HAbz : Hid (∀ U, Below V.heap.size V U → Calls Tryz.prog 55 #[.pointer (some ⟨gm, 0, none⟩), .int .i64 z] U fun e w' => ∃ a cap, e = .returned (.slice a al cap) ∧ Below U.heap.size U w') := Lib.hid (fun U q => by rw [hal]; exact HAb.out U gm vm z (HF.out.keep (bthen HBW.out q)))
            obtain ⟨d, hd⟩ : ∃ d : Nat, d = al + 1 := ⟨_, rfl⟩
            have hdw : IntKind.i64.wrap ((al : Int) + 1) = (d : Int) := by
              have e1 : ((d : Nat) : Int) = (al : Int) + 1 := by omega
              rw [e1, IntKind.wrap_i64]
              omega
            obtain ⟨XU, hXU⟩ : ∃ XU, XU = cSt u' := ⟨_, rfl⟩
            obtain ⟨st, hst⟩ : ∃ st, st = oneS u' nd' d := ⟨_, rfl⟩
            obtain ⟨XR, hXR⟩ : ∃ XR, XR = cSt st := ⟨_, rfl⟩
            obtain ⟨E, hE⟩ : ∃ E, E = oneE u' nd' d := ⟨_, rfl⟩
            have hoku : okM u'.wo = true := HWk.out u' (List.mem_of_getElem? hkat)
            have HOne : Hid (∀ U, Calls Tryz.prog 54 #[.agg XU.toArray, .agg XM.toArray, .int .i64 (d : Int)] U fun e w' => e = .returned (.tuple #[.agg XR.toArray, .int .i64 E]) ∧ Below U.heap.size U w') := Lib.hid (fun U => by
              rw [hXU, HXM.out, hXR, hst, hE]
              refine (gone_any u' nd' d hoku HOkp.out (by omega) U).mono ?_
              rintro e w' ⟨Y, rfl, rfl, hb⟩
              exact ⟨rfl, hb⟩)
            have HXU := Lib.hid (sx_any u')
            have HXR := Lib.hid (sx_any st)
            have HNX := Lib.hid (nx_any nd')
            rw [← hXU] at HXU
            rw [← hXR] at HXR
            rw [← HXM.out] at HNX
            have zN := KN.out.lt
            have k0' : (0 : Int) ≤ (ku : Int) := by omega
            have k1' : (ku : Int) < (sn : Int) := by omega
            have HSa : Hid (∀ U, Below V.heap.size V U → (U.rangeAt ub (uo + ku * 14) XU ∧ U.rangeAt gx 0 XM ∧ U.cell? ⟨gx, 0, none⟩ = some (.int .i64 z))) := Lib.hid (fun U q => ⟨by rw [hXU]; exact range_same hurg (q.block ub hubl), blk_whole (KN.out.keep q), (HCN.out U (KN.out.keep q)).2.1⟩)
            have HFin : Hid (∀ gs U, Blk U gs 52 (cSt zSt).toArray → Below V.heap.size V U → V.heap.size ≤ gs → U.there gs 0 XR.toArray.size ∧ (Blk (U.setCells gs 0 XR) gs 52 XR.toArray ∧ Below V.heap.size V (U.setCells gs 0 XR) ∧ V.heap.size ≤ gs) ∧ ((U.setCells gs 0 XR).rangeAt ub (uo + ku * 14) XU ∧ (U.setCells gs 0 XR).rangeAt gx 0 XM ∧ (U.setCells gs 0 XR).cell? ⟨gx, 0, none⟩ = some (.int .i64 z))) := Lib.hid (fun gs U k q le => ⟨blk_there k (by rw [List.size_toArray, HXR.out.len]; exact Nat.le_refl 14), ⟨blk_over k (by rw [HXR.out.len]; rfl), below_setCells XR q le, le⟩, HSa.out _ (below_setCells XR q le)⟩)
            have HHel := Lib.hid hel
            have HSt0 := Lib.hid hst
            have HE0 := Lib.hid hE
            have HD0 : Hid (d = (abv T z).length + 1) := Lib.hid (by rw [hd, hal])
            clear hel hku hkat hkl hkid hux hurg hal hd hXU hst hXR hE hoku
            go_upto_region 15 with fail
            refine wp_join (fun gs f => { tmps := #[.pointer (some ⟨g, 0, none⟩), undef, .slice none 0 0, .int .i64 0, .pointer (some ⟨gm, 0, none⟩), .slice (some ⟨ob, oo, none⟩) N co, .slice (some ⟨ub, uo, none⟩) sn scp, .int .i64 sl, .int .i64 se, .int .i64 j, .pointer (some ⟨gx, 0, none⟩), .int .i64 p, .int .i64 (ku : Int), .pointer (some ⟨gs, 0, none⟩), .int .i64 E, .pointer (some ⟨g, 0, none⟩), .pointer (some ⟨gm, 0, none⟩), .pointer (some ⟨gm, 0, none⟩), .pointer (some ⟨g, 0, none⟩), .slice a2 n2 c2, .slice (some ⟨ob, oo, none⟩) N co, f 21, f 22, f 23, f 24, f 25, f 26, f 27, f 28, f 29, f 30, f 31, f 32, f 33, f 34, f 35, f 36, f 37, f 38, f 39, f 40, f 41, f 42, f 43, f 44, f 45, f 46, f 47, f 48, f 49, f 50, f 51, f 52, f 53, f 54, f 55, f 56, f 57, f 58, f 59, f 60, f 61, f 62, f 63, f 64, f 65, f 66, f 67, f 68, f 69, f 70, f 71, f 72, f 73, f 74, f 75, f 76, f 77, f 78, f 79, f 80, f 81, f 82, f 83, f 84, f 85, f 86, f 87, f 88, f 89, f 90, f 91, f 92, f 93, f 94, f 95, f 96, f 97, f 98, undef, undef], defers := [] }) (fun gs W => Blk W gs 52 XR.toArray ∧ Below V.heap.size V W ∧ V.heap.size ≤ gs) ?_ ?_
            · have hdwx := hdw
              refine wp_region_held_drew (S := fun w' => w'.rangeAt ub (uo + ku * 14) XU ∧ w'.rangeAt gx 0 XM ∧ w'.cell? ⟨gx, 0, none⟩ = some (.int .i64 z)) (by kernel_rfl) (HSa.out _ (below_drew9f V)) (fun hHeld => ?_)
              refine wpAnyH_take (i := 0) (v := ?_) rfl (by kernel_rfl) (by kernel_rfl) (by kernel_rfl) (fun _ _ _ h => (by cases h.1)) (Or.inl ⟨by rfl, ?_⟩) hHeld ?_
              rotate_left
              · intro w hSw
                obtain ⟨s0, s1, s2⟩ := hSw
                go_simp
                with_reducible rfl
              simp only [Act.put, List.getElem_toArray, List.getElem_cons_zero, List.setIfInBounds_toArray, List.set_cons_zero, List.set_cons_succ]
              refine wpAnyH_take (i := 1) (v := ?_) rfl (by kernel_rfl) (by kernel_rfl) (by kernel_rfl) (fun _ _ _ h => (by cases h.1)) (Or.inl ⟨by rfl, ?_⟩) hHeld ?_
              rotate_left
              · intro w hSw
                obtain ⟨s0, s1, s2⟩ := hSw
                go_simp
                with_reducible rfl
              simp only [Act.put, List.getElem_toArray, List.getElem_cons_zero, List.getElem_cons_succ, List.setIfInBounds_toArray, List.set_cons_zero, List.set_cons_succ]
              refine wpAnyH_take (i := 2) (v := ?_) rfl (by kernel_rfl) (by kernel_rfl) (by kernel_rfl) (fun _ _ _ h => (by cases h.1)) (Or.inl ⟨by rfl, ?_⟩) hHeld ?_
              rotate_left
              · intro w hSw
                obtain ⟨s0, s1, s2⟩ := hSw
                go_simp
                with_reducible rfl
              simp only [Act.put, List.getElem_toArray, List.getElem_cons_zero, List.getElem_cons_succ, List.setIfInBounds_toArray, List.set_cons_zero, List.set_cons_succ]
              refine wpAnyH_take (i := 3) (v := _) rfl (by kernel_rfl) (by kernel_rfl) (by kernel_rfl) (fun _ _ _ h => (by cases h.1)) (yieldsIf_load_mid (by rfl) _ _ rfl _ _ rfl _ _ (fun _ h => h.1) Tryz.underlying52 rfl HXU.out.size) hHeld ?_
              simp only [Act.put, List.getElem_toArray, List.getElem_cons_zero, List.getElem_cons_succ, List.setIfInBounds_toArray, List.set_cons_zero, List.set_cons_succ]
              refine wpAnyH_take (i := 4) (v := _) rfl (by kernel_rfl) (by kernel_rfl) (by kernel_rfl) (fun _ _ _ h => (by cases h.1)) (yieldsIf_load_mid (by rfl) _ _ rfl _ _ rfl _ _ (fun _ h => h.2.1) Tryz.underlying84 rfl HNX.out.size) hHeld ?_
              simp only [Act.put, List.getElem_toArray, List.getElem_cons_zero, List.getElem_cons_succ, List.setIfInBounds_toArray, List.set_cons_zero, List.set_cons_succ]
              refine wpAnyH_take (i := 5) (v := ?_) rfl (by kernel_rfl) (by kernel_rfl) (by kernel_rfl) (fun _ _ _ h => (by cases h.1)) (Or.inl ⟨by rfl, ?_⟩) hHeld ?_
              rotate_left
              · intro w hSw
                obtain ⟨s0, s1, s2⟩ := hSw
                go_simp
                with_reducible rfl
              simp only [Act.put, List.getElem_toArray, List.getElem_cons_zero, List.getElem_cons_succ, List.setIfInBounds_toArray, List.set_cons_zero, List.set_cons_succ]
              refine wpAnyH_take (i := 6) (v := ?_) rfl (by kernel_rfl) (by kernel_rfl) (by kernel_rfl) (fun _ _ _ h => (by cases h.1)) (Or.inl ⟨by rfl, ?_⟩) hHeld ?_
              rotate_left
              · intro w hSw
                obtain ⟨s0, s1, s2⟩ := hSw
                go_simp
                with_reducible rfl
              simp only [Act.put, List.getElem_toArray, List.getElem_cons_zero, List.getElem_cons_succ, List.setIfInBounds_toArray, List.set_cons_zero, List.set_cons_succ]
              refine wpAnyH_take (i := 7) (v := ?_) rfl (by kernel_rfl) (by kernel_rfl) (by kernel_rfl) (fun _ _ _ h => (by cases h.1)) (Or.inl ⟨by rfl, ?_⟩) hHeld ?_
              rotate_left
              · intro w hSw
                obtain ⟨s0, s1, s2⟩ := hSw
                go_simp
                with_reducible rfl
              simp only [Act.put, List.getElem_toArray, List.getElem_cons_zero, List.getElem_cons_succ, List.setIfInBounds_toArray, List.set_cons_zero, List.set_cons_succ]
              refine wpAnyH_ready (rs := [8, 15]) (by kernel_rfl) (by simp) ?_
              refine AllReadyH.cons rfl (fun K hK => ?_) (AllReadyH.cons rfl (fun K hK => ?_) AllReadyH.nil)
              · go_simp
                go_at_call 55
                refine (HAbz.out _ (below_drew9f V)).mono ?_
                rintro e w9 ⟨a9, c9, rfl, b9⟩
                go_wp2_with fail
                have HB9 := Lib.hid (bthen (below_drew9f V) b9)
                refine hK.out _ _ (HSa.out _ HB9.out) (fun hHeld => ?_)
                clear hK K
                refine wpAnyH_take (i := 9) (v := ?_) rfl (by kernel_rfl) (by kernel_rfl) (by kernel_rfl) (fun _ _ _ h => (by cases h.1)) (Or.inl ⟨by rfl, ?_⟩) hHeld ?_
                rotate_left
                · intro w hSw
                  obtain ⟨s0, s1, s2⟩ := hSw
                  go_simp
                  with_reducible rfl
                simp only [Act.put, List.getElem_toArray, List.getElem_cons_zero, List.getElem_cons_succ, List.setIfInBounds_toArray, List.set_cons_zero, List.set_cons_succ]
                refine wpAnyH_take (i := 10) (v := ?_) rfl (by kernel_rfl) (by kernel_rfl) (by kernel_rfl) (fun _ _ _ h => (by cases h.1)) (Or.inl ⟨by rfl, ?_⟩) hHeld ?_
                rotate_left
                · intro w hSw
                  obtain ⟨s0, s1, s2⟩ := hSw
                  go_simp
                  with_reducible rfl
                simp only [Act.put, List.getElem_toArray, List.getElem_cons_zero, List.getElem_cons_succ, List.setIfInBounds_toArray, List.set_cons_zero, List.set_cons_succ]
                refine wpAnyH_ready (rs := [11, 15]) (by kernel_rfl) (by simp) ?_
                refine AllReadyH.cons rfl (fun K hK => ?_) (AllReadyH.cons rfl (fun K hK => ?_) AllReadyH.nil)
                · go_simp
                  go_at_call 54
                  refine (HOne.out _).mono ?_
                  rintro e wA ⟨rfl, bA⟩
                  go_wp2_with fail
                  have HBA := Lib.hid (bthen HB9.out bA)
                  refine hK.out _ _ (HSa.out _ HBA.out) (fun hHeld => ?_)
                  clear hK K
                  refine wpAnyH_take (i := 12) (v := ?_) rfl (by kernel_rfl) (by kernel_rfl) (by kernel_rfl) (fun _ _ _ h => (by cases h.1)) (Or.inl ⟨by rfl, ?_⟩) hHeld ?_
                  rotate_left
                  · intro w hSw
                    obtain ⟨s0, s1, s2⟩ := hSw
                    go_simp
                    with_reducible rfl
                  simp only [Act.put, List.getElem_toArray, List.getElem_cons_zero, List.getElem_cons_succ, List.setIfInBounds_toArray, List.set_cons_zero, List.set_cons_succ]
                  refine wpAnyH_take (i := 13) (v := ?_) rfl (by kernel_rfl) (by kernel_rfl) (by kernel_rfl) (fun _ _ _ h => (by cases h.1)) (Or.inl ⟨by rfl, ?_⟩) hHeld ?_
                  rotate_left
                  · intro w hSw
                    obtain ⟨s0, s1, s2⟩ := hSw
                    go_simp
                    with_reducible rfl
                  simp only [Act.put, List.getElem_toArray, List.getElem_cons_zero, List.getElem_cons_succ, List.setIfInBounds_toArray, List.set_cons_zero, List.set_cons_succ]
                  refine wpAnyH_take (i := 14) (v := ?_) rfl (by kernel_rfl) (by kernel_rfl) (by kernel_rfl) (fun _ _ _ h => (by cases h.1)) (Or.inl ⟨by rfl, ?_⟩) hHeld ?_
                  rotate_left
                  · intro w hSw
                    obtain ⟨s0, s1, s2⟩ := hSw
                    go_simp
                    with_reducible rfl
                  simp only [Act.put, List.getElem_toArray, List.getElem_cons_zero, List.getElem_cons_succ, List.setIfInBounds_toArray, List.set_cons_zero, List.set_cons_succ]
                  refine wpAnyH_ready (rs := [15]) (by kernel_rfl) (by simp) ?_
                  refine AllReadyH.cons rfl (fun K hK => ?_) AllReadyH.nil
                  go_simp
                  refine hK.out _ _ (HSa.out _ (bthen HBA.out (alloc_below _ _))) (fun hHeld => ?_)
                  clear hK K
                  have G := Lib.hid (HFin.out (wA.heap.size) (wA.alloc (.cells (cSt zSt).toArray 52)) (Blk.new wA _ _) (bthen HBA.out (alloc_below _ _)) (HBA.out.size))
                  refine wpAnyH_ready (rs := [16]) (by kernel_rfl) (by simp) ?_
                  refine AllReadyH.cons rfl (fun K hK => ?_) AllReadyH.nil
                  rw [if_pos (by rfl)]
                  refine wp_store_mid 52 (.tmp 13) (.tmp 80) rfl (wA.heap.size) 0 XR.toArray rfl rfl G.out.1 HXR.out.sizea HXR.out.onea ?_
                  refine hK.out _ _ G.out.2.2 (fun hHeld => ?_)
                  clear hK K
                  refine wpAnyH_take (i := 17) (v := ?_) rfl (by kernel_rfl) (by kernel_rfl) (by kernel_rfl) (fun _ _ _ h => (by cases h.1)) (Or.inl ⟨by rfl, ?_⟩) hHeld ?_
                  rotate_left
                  · intro w hSw
                    obtain ⟨s0, s1, s2⟩ := hSw
                    go_simp
                    with_reducible rfl
                  simp only [Act.put, List.getElem_toArray, List.getElem_cons_zero, List.getElem_cons_succ, List.setIfInBounds_toArray, List.set_cons_zero, List.set_cons_succ]
                  refine wpAnyH_done (by kernel_rfl) ?_ _
                  exact mk_join (fr := (fun gs f => { tmps := #[.pointer (some ⟨g, 0, none⟩), undef, .slice none 0 0, .int .i64 0, .pointer (some ⟨gm, 0, none⟩), .slice (some ⟨ob, oo, none⟩) N co, .slice (some ⟨ub, uo, none⟩) sn scp, .int .i64 sl, .int .i64 se, .int .i64 j, .pointer (some ⟨gx, 0, none⟩), .int .i64 p, .int .i64 (ku : Int), .pointer (some ⟨gs, 0, none⟩), .int .i64 E, .pointer (some ⟨g, 0, none⟩), .pointer (some ⟨gm, 0, none⟩), .pointer (some ⟨gm, 0, none⟩), .pointer (some ⟨g, 0, none⟩), .slice a2 n2 c2, .slice (some ⟨ob, oo, none⟩) N co, f 21, f 22, f 23, f 24, f 25, f 26, f 27, f 28, f 29, f 30, f 31, f 32, f 33, f 34, f 35, f 36, f 37, f 38, f 39, f 40, f 41, f 42, f 43, f 44, f 45, f 46, f 47, f 48, f 49, f 50, f 51, f 52, f 53, f 54, f 55, f 56, f 57, f 58, f 59, f 60, f 61, f 62, f 63, f 64, f 65, f 66, f 67, f 68, f 69, f 70, f 71, f 72, f 73, f 74, f 75, f 76, f 77, f 78, f 79, f 80, f 81, f 82, f 83, f 84, f 85, f 86, f 87, f 88, f 89, f 90, f 91, f 92, f 93, f 94, f 95, f 96, f 97, f 98, undef, undef], defers := [] })) (Φ := (fun gs W => Blk W gs 52 XR.toArray ∧ Below V.heap.size V W ∧ V.heap.size ≤ gs)) (wA.heap.size) G.out.2.1 rfl
                · go_simp
                  refine hK.out _ _ (HSa.out _ (bthen HB9.out (alloc_below _ _))) (fun hHeld => ?_)
                  clear hK K
                  have HB9a := HB9
                  replace HB9 := Lib.hid (bthen HB9.out (alloc_below w9 (.cells (cSt zSt).toArray 52)))
                  refine wpAnyH_ready (rs := [11]) (by kernel_rfl) (by simp) ?_
                  refine AllReadyH.cons rfl (fun K hK => ?_) AllReadyH.nil
                  go_simp
                  go_at_call 54
                  refine (HOne.out _).mono ?_
                  rintro e wA ⟨rfl, bA⟩
                  go_wp2_with fail
                  have HBA := Lib.hid (bthen HB9.out bA)
                  refine hK.out _ _ (HSa.out _ HBA.out) (fun hHeld => ?_)
                  clear hK K
                  refine wpAnyH_take (i := 12) (v := ?_) rfl (by kernel_rfl) (by kernel_rfl) (by kernel_rfl) (fun _ _ _ h => (by cases h.1)) (Or.inl ⟨by rfl, ?_⟩) hHeld ?_
                  rotate_left
                  · intro w hSw
                    obtain ⟨s0, s1, s2⟩ := hSw
                    go_simp
                    with_reducible rfl
                  simp only [Act.put, List.getElem_toArray, List.getElem_cons_zero, List.getElem_cons_succ, List.setIfInBounds_toArray, List.set_cons_zero, List.set_cons_succ]
                  refine wpAnyH_take (i := 13) (v := ?_) rfl (by kernel_rfl) (by kernel_rfl) (by kernel_rfl) (fun _ _ _ h => (by cases h.1)) (Or.inl ⟨by rfl, ?_⟩) hHeld ?_
                  rotate_left
                  · intro w hSw
                    obtain ⟨s0, s1, s2⟩ := hSw
                    go_simp
                    with_reducible rfl
                  simp only [Act.put, List.getElem_toArray, List.getElem_cons_zero, List.getElem_cons_succ, List.setIfInBounds_toArray, List.set_cons_zero, List.set_cons_succ]
                  refine wpAnyH_take (i := 14) (v := ?_) rfl (by kernel_rfl) (by kernel_rfl) (by kernel_rfl) (fun _ _ _ h => (by cases h.1)) (Or.inl ⟨by rfl, ?_⟩) hHeld ?_
                  rotate_left
                  · intro w hSw
                    obtain ⟨s0, s1, s2⟩ := hSw
                    go_simp
                    with_reducible rfl
                  simp only [Act.put, List.getElem_toArray, List.getElem_cons_zero, List.getElem_cons_succ, List.setIfInBounds_toArray, List.set_cons_zero, List.set_cons_succ]
                  have G := Lib.hid (HFin.out (w9.heap.size) (wA) ((Blk.new w9 _ _).keep bA) (HBA.out) (HB9a.out.size))
                  refine wpAnyH_ready (rs := [16]) (by kernel_rfl) (by simp) ?_
                  refine AllReadyH.cons rfl (fun K hK => ?_) AllReadyH.nil
                  rw [if_pos (by rfl)]
                  refine wp_store_mid 52 (.tmp 13) (.tmp 80) rfl (w9.heap.size) 0 XR.toArray rfl rfl G.out.1 HXR.out.sizea HXR.out.onea ?_
                  refine hK.out _ _ G.out.2.2 (fun hHeld => ?_)
                  clear hK K
                  refine wpAnyH_take (i := 17) (v := ?_) rfl (by kernel_rfl) (by kernel_rfl) (by kernel_rfl) (fun _ _ _ h => (by cases h.1)) (Or.inl ⟨by rfl, ?_⟩) hHeld ?_
                  rotate_left
                  · intro w hSw
                    obtain ⟨s0, s1, s2⟩ := hSw
                    go_simp
                    with_reducible rfl
                  simp only [Act.put, List.getElem_toArray, List.getElem_cons_zero, List.getElem_cons_succ, List.setIfInBounds_toArray, List.set_cons_zero, List.set_cons_succ]
                  refine wpAnyH_done (by kernel_rfl) ?_ _
                  exact mk_join (fr := (fun gs f => { tmps := #[.pointer (some ⟨g, 0, none⟩), undef, .slice none 0 0, .int .i64 0, .pointer (some ⟨gm, 0, none⟩), .slice (some ⟨ob, oo, none⟩) N co, .slice (some ⟨ub, uo, none⟩) sn scp, .int .i64 sl, .int .i64 se, .int .i64 j, .pointer (some ⟨gx, 0, none⟩), .int .i64 p, .int .i64 (ku : Int), .pointer (some ⟨gs, 0, none⟩), .int .i64 E, .pointer (some ⟨g, 0, none⟩), .pointer (some ⟨gm, 0, none⟩), .pointer (some ⟨gm, 0, none⟩), .pointer (some ⟨g, 0, none⟩), .slice a2 n2 c2, .slice (some ⟨ob, oo, none⟩) N co, f 21, f 22, f 23, f 24, f 25, f 26, f 27, f 28, f 29, f 30, f 31, f 32, f 33, f 34, f 35, f 36, f 37, f 38, f 39, f 40, f 41, f 42, f 43, f 44, f 45, f 46, f 47, f 48, f 49, f 50, f 51, f 52, f 53, f 54, f 55, f 56, f 57, f 58, f 59, f 60, f 61, f 62, f 63, f 64, f 65, f 66, f 67, f 68, f 69, f 70, f 71, f 72, f 73, f 74, f 75, f 76, f 77, f 78, f 79, f 80, f 81, f 82, f 83, f 84, f 85, f 86, f 87, f 88, f 89, f 90, f 91, f 92, f 93, f 94, f 95, f 96, f 97, f 98, undef, undef], defers := [] })) (Φ := (fun gs W => Blk W gs 52 XR.toArray ∧ Below V.heap.size V W ∧ V.heap.size ≤ gs)) (w9.heap.size) G.out.2.1 rfl
              · go_simp
                refine hK.out _ _ (HSa.out _ (bthen (below_drew9f V) (alloc_below _ _))) (fun hHeld => ?_)
                clear hK K
                refine wpAnyH_ready (rs := [8]) (by kernel_rfl) (by simp) ?_
                refine AllReadyH.cons rfl (fun K hK => ?_) AllReadyH.nil
                go_simp
                go_at_call 55
                refine (HAbz.out _ (bthen (below_drew9f V) (alloc_below V.drew (.cells (cSt zSt).toArray 52)))).mono ?_
                rintro e w9 ⟨a9, c9, rfl, b9⟩
                go_wp2_with fail
                have HB9 := Lib.hid (bthen (bthen (below_drew9f V) (alloc_below V.drew (.cells (cSt zSt).toArray 52))) b9)
                refine hK.out _ _ (HSa.out _ HB9.out) (fun hHeld => ?_)
                clear hK K
                refine wpAnyH_take (i := 9) (v := ?_) rfl (by kernel_rfl) (by kernel_rfl) (by kernel_rfl) (fun _ _ _ h => (by cases h.1)) (Or.inl ⟨by rfl, ?_⟩) hHeld ?_
                rotate_left
                · intro w hSw
                  obtain ⟨s0, s1, s2⟩ := hSw
                  go_simp
                  with_reducible rfl
                simp only [Act.put, List.getElem_toArray, List.getElem_cons_zero, List.getElem_cons_succ, List.setIfInBounds_toArray, List.set_cons_zero, List.set_cons_succ]
                refine wpAnyH_take (i := 10) (v := ?_) rfl (by kernel_rfl) (by kernel_rfl) (by kernel_rfl) (fun _ _ _ h => (by cases h.1)) (Or.inl ⟨by rfl, ?_⟩) hHeld ?_
                rotate_left
                · intro w hSw
                  obtain ⟨s0, s1, s2⟩ := hSw
                  go_simp
                  with_reducible rfl
                simp only [Act.put, List.getElem_toArray, List.getElem_cons_zero, List.getElem_cons_succ, List.setIfInBounds_toArray, List.set_cons_zero, List.set_cons_succ]
                refine wpAnyH_ready (rs := [11]) (by kernel_rfl) (by simp) ?_
                refine AllReadyH.cons rfl (fun K hK => ?_) AllReadyH.nil
                go_simp
                go_at_call 54
                refine (HOne.out _).mono ?_
                rintro e wA ⟨rfl, bA⟩
                go_wp2_with fail
                have HBA := Lib.hid (bthen HB9.out bA)
                refine hK.out _ _ (HSa.out _ HBA.out) (fun hHeld => ?_)
                clear hK K
                refine wpAnyH_take (i := 12) (v := ?_) rfl (by kernel_rfl) (by kernel_rfl) (by kernel_rfl) (fun _ _ _ h => (by cases h.1)) (Or.inl ⟨by rfl, ?_⟩) hHeld ?_
                rotate_left
                · intro w hSw
                  obtain ⟨s0, s1, s2⟩ := hSw
                  go_simp
                  with_reducible rfl
                simp only [Act.put, List.getElem_toArray, List.getElem_cons_zero, List.getElem_cons_succ, List.setIfInBounds_toArray, List.set_cons_zero, List.set_cons_succ]
                refine wpAnyH_take (i := 13) (v := ?_) rfl (by kernel_rfl) (by kernel_rfl) (by kernel_rfl) (fun _ _ _ h => (by cases h.1)) (Or.inl ⟨by rfl, ?_⟩) hHeld ?_
                rotate_left
                · intro w hSw
                  obtain ⟨s0, s1, s2⟩ := hSw
                  go_simp
                  with_reducible rfl
                simp only [Act.put, List.getElem_toArray, List.getElem_cons_zero, List.getElem_cons_succ, List.setIfInBounds_toArray, List.set_cons_zero, List.set_cons_succ]
                refine wpAnyH_take (i := 14) (v := ?_) rfl (by kernel_rfl) (by kernel_rfl) (by kernel_rfl) (fun _ _ _ h => (by cases h.1)) (Or.inl ⟨by rfl, ?_⟩) hHeld ?_
                rotate_left
                · intro w hSw
                  obtain ⟨s0, s1, s2⟩ := hSw
                  go_simp
                  with_reducible rfl
                simp only [Act.put, List.getElem_toArray, List.getElem_cons_zero, List.getElem_cons_succ, List.setIfInBounds_toArray, List.set_cons_zero, List.set_cons_succ]
                have G := Lib.hid (HFin.out (V.heap.size) (wA) (((Blk.new V.drew _ _).keep b9).keep bA) (HBA.out) (Nat.le_refl _))
                refine wpAnyH_ready (rs := [16]) (by kernel_rfl) (by simp) ?_
                refine AllReadyH.cons rfl (fun K hK => ?_) AllReadyH.nil
                rw [if_pos (by rfl)]
                refine wp_store_mid 52 (.tmp 13) (.tmp 80) rfl (V.heap.size) 0 XR.toArray rfl rfl G.out.1 HXR.out.sizea HXR.out.onea ?_
                refine hK.out _ _ G.out.2.2 (fun hHeld => ?_)
                clear hK K
                refine wpAnyH_take (i := 17) (v := ?_) rfl (by kernel_rfl) (by kernel_rfl) (by kernel_rfl) (fun _ _ _ h => (by cases h.1)) (Or.inl ⟨by rfl, ?_⟩) hHeld ?_
                rotate_left
                · intro w hSw
                  obtain ⟨s0, s1, s2⟩ := hSw
                  go_simp
                  with_reducible rfl
                simp only [Act.put, List.getElem_toArray, List.getElem_cons_zero, List.getElem_cons_succ, List.setIfInBounds_toArray, List.set_cons_zero, List.set_cons_succ]
                refine wpAnyH_done (by kernel_rfl) ?_ _
                exact mk_join (fr := (fun gs f => { tmps := #[.pointer (some ⟨g, 0, none⟩), undef, .slice none 0 0, .int .i64 0, .pointer (some ⟨gm, 0, none⟩), .slice (some ⟨ob, oo, none⟩) N co, .slice (some ⟨ub, uo, none⟩) sn scp, .int .i64 sl, .int .i64 se, .int .i64 j, .pointer (some ⟨gx, 0, none⟩), .int .i64 p, .int .i64 (ku : Int), .pointer (some ⟨gs, 0, none⟩), .int .i64 E, .pointer (some ⟨g, 0, none⟩), .pointer (some ⟨gm, 0, none⟩), .pointer (some ⟨gm, 0, none⟩), .pointer (some ⟨g, 0, none⟩), .slice a2 n2 c2, .slice (some ⟨ob, oo, none⟩) N co, f 21, f 22, f 23, f 24, f 25, f 26, f 27, f 28, f 29, f 30, f 31, f 32, f 33, f 34, f 35, f 36, f 37, f 38, f 39, f 40, f 41, f 42, f 43, f 44, f 45, f 46, f 47, f 48, f 49, f 50, f 51, f 52, f 53, f 54, f 55, f 56, f 57, f 58, f 59, f 60, f 61, f 62, f 63, f 64, f 65, f 66, f 67, f 68, f 69, f 70, f 71, f 72, f 73, f 74, f 75, f 76, f 77, f 78, f 79, f 80, f 81, f 82, f 83, f 84, f 85, f 86, f 87, f 88, f 89, f 90, f 91, f 92, f 93, f 94, f 95, f 96, f 97, f 98, undef, undef], defers := [] })) (Φ := (fun gs W => Blk W gs 52 XR.toArray ∧ Below V.heap.size V W ∧ V.heap.size ≤ gs)) (V.heap.size) G.out.2.1 rfl
            · rintro gs f2 V2 ⟨ks, hb2, hgs⟩
              have KS := Lib.hid ks
              have HB2 := Lib.hid (bthen HBV.out hb2)
              have HO2 := Lib.hid (HOW.out.keep hb2)
              have hszV2 : w3.heap.size ≤ V2.heap.size := Nat.le_trans hszV hb2.size
              obtain ⟨-, c0, -⟩ := HCN.out V2 (KN.out.keep hb2)
              have zN2 := (KN.out.keep hb2).lt
              have zS2 := ks.lt
              clear HSa HFin HAbz HOne HXU HNX zN k0' k1' hdw ks hb2 KN HBV HOW HSR hgs
              by_cases hE0 : E = 0
              · have hE1 : (E == 0) = true := by simpa using hE0
                have hd16 : ¬ 16 < d := fun c => by
                  have := HE0.out
                  unfold oneE at this
                  rw [if_pos c] at this
                  omega
                have hst2 : st = ⟨nd'.id, prodM u'.wo nd'.pl, u'.sh && !nd'.hid⟩ := by
                  rw [HSt0.out]
                  unfold oneS
                  rw [if_neg hd16]
                have hpe : prodE2 u'.wo nd'.pl = 0 := by
                  have := HE0.out
                  unfold oneE at this
                  rw [if_neg hd16] at this
                  omega
                have HSt : Hid ((O.take (j + 1)).foldl (allA L) ⟨[], -1, 0⟩ = ⟨SO ++ [st], sl, se⟩) := Lib.hid (by
                  rw [HStep.out]
                  unfold allA
                  rw [HNd.out]
                  simp only []
                  rw [← HZ.out, ← HP.out, if_neg (show ¬ p < 0 by omega), HHel.out]
                  simp only []
                  rw [← HT.out, ← HD0.out, if_neg hd16, if_pos hpe, hst2, HZ.out])
                have HWs : Hid (∀ s ∈ SO ++ [st], okM s.wo = true) := Lib.hid (fun s hs => by
                  rcases List.mem_append.1 hs with hs | hs
                  · exact HWk.out s hs
                  · obtain rfl : s = st := by simpa using hs
                    rw [hst2]
                    exact prodM_ok _ _)
                have HBl := Lib.hid (fun W => bs_state st W)
                rw [← HXR.out.eq] at HBl
                have hml : XR.length = 14 := HXR.out.len
                have R0 := Lib.hid (blk_whole KS.out)
                clear hd16 hst2 hpe
                go_wp2_with (first
                  | refine wpList_load_mid rfl 52 (.tmp 13) rfl gs 0 rfl XR _ R0.out Tryz.underlying52 rfl HXR.out.size ?_
                  | refine wpList_bs8 rfl 31 52 (.tmp 85) rfl XR rfl HBl.out ?_
                  | (at_builtin; refine wpList_pushX rfl (.tmp 84) (.tmp 86) 31 112 (.agg (cSt default).toArray) rfl Tryz.underlying31 zS_info rfl (by decide) (by decide) cSt_len st (cSt_one st) rfl (HO2.out.keep (alloc_below _ _)) V2.heap.size 1 rfl (by rw [← HXR.out.eq]; exact blk_whole (Blk.new V2 _ _)) (by rw [← HSn.out]; exact hsl2) (by simp; omega) ?_))
                intro v' W2 k1 k2 k3
                have K : Hid (OwnX 14 cSt 52 W2 w3.heap.size v' (SO ++ [st]) ∧ Below w3.heap.size w3 W2) := Lib.hid (by
                  refine ⟨k1, ?_⟩
                  have hb1 := bthen HB2.out (alloc_below V2 (.cells XR.toArray 52))
                  have hoW := HO2.out
                  exact ⟨k2.os.trans hb1.os, k2.tape.trans hb1.tape, k2.output.trans hb1.output, Nat.le_trans hb1.size k2.size, fun q hq => (k2.block q (Nat.lt_of_lt_of_le hq hb1.size) (fun e => by have := (hoW.lt _ e.symm).1; omega)).trans (hb1.block q hq)⟩)
                clear k1 k2 k3
                go_wp2
                go_roundw
                case rel => exact ⟨j + 1, SO ++ [st], sl, se, by omega, by go_num, HSt.out.symm, rfl, rfl, K.out.1, HWs.out, by rw [List.length_append, ← HSn.out]; simp; omega, K.out.2⟩
                case measure => simp [ivl] <;> omega
              · have hE1 : (E == 0) = false := by simpa using hE0
                have HSt : Hid ((O.take (j + 1)).foldl (allA L) ⟨[], -1, 0⟩ = failA ⟨SO, sl, se⟩ z E) := Lib.hid (by
                  rw [HStep.out]
                  unfold allA
                  rw [HNd.out]
                  simp only []
                  rw [← HZ.out, ← HP.out, if_neg (show ¬ p < 0 by omega), HHel.out]
                  simp only []
                  rw [← HT.out, ← HD0.out]
                  have e1 := HE0.out
                  unfold oneE at e1
                  by_cases c : 16 < d
                  · rw [if_pos c] at e1
                    rw [if_pos c, e1]
                  · rw [if_neg c] at e1
                    rw [if_neg c, ← e1, if_neg hE0])
                unfold failA at HSt
                simp only [] at HSt
                by_cases hs0 : sl < 0
                · rw [if_pos (Or.inl hs0)] at HSt
                  go_wp2
                  go_roundw
                  case rel => exact ⟨j + 1, SO, z, E, by omega, by go_num, HSt.out.symm, rfl, rfl, HO2.out, HWk.out, by rw [← HSn.out]; omega, HB2.out⟩
                  case measure => simp [ivl] <;> omega
                · by_cases hz0 : z < sl
                  · rw [if_pos (Or.inr hz0)] at HSt
                    go_wp2
                    go_roundw
                    case rel => exact ⟨j + 1, SO, z, E, by omega, by go_num, HSt.out.symm, rfl, rfl, HO2.out, HWk.out, by rw [← HSn.out]; omega, HB2.out⟩
                    case measure => simp [ivl] <;> omega
                  · rw [if_neg (fun c => c.elim hs0 hz0)] at HSt
                    go_wp2
                    go_roundw
                    case rel => exact ⟨j + 1, SO, sl, se, by omega, by go_num, HSt.out.symm, rfl, rfl, HO2.out, HWk.out, by rw [← HSn.out]; omega, HB2.out⟩
                    case measure => simp [ivl] <;> omega
    · have e0 : O.take j = O := List.take_of_length_le (by rw [← HNl.out]; omega)
      rw [e0, ← HAl.out] at HS
      have j1 : ¬ (j : Int) < (N : Int) := by omega
      have HRe : Hid (AN.e = se ∧ AN.out = SO) := Lib.hid (by rw [← HS.out]; exact ⟨rfl, rfl⟩)
      clear e0
      go_wp2
      exact bodyPost_ret (v := .tuple #[u6, .int .i64 se]) (by simp [results, Tryz.results29, go_sem]) rfl ⟨u6, by rw [HRe.out.1], by rw [HRe.out.2]; exact OwnX.low HO.out HB3.out.size, HBw.out⟩
end
end Go.Proofs.YtdndafdninnjfaaGreat
