/-
  2 texts in one file, each with its own heading.
-/
import Derived.Test.YtjcibffhlhdjeaaMU27
import Derived.Test.YtjcibffhlhdjeaaMU19
/-
  The landed cull: Put and Drop.
-/
namespace Go.Proofs.Ytjcibffhlhdjeaa
open Go.RowKit

theorem wp_del15 {op : Oper} {a : Go.Act} {w w' : World} {K : Go.Act → World → Prop} {Q : Exit → Go.Act → World → Prop} (tm tx : Operand) (t k : TypeId)
    (ho : op.op = .call { callee := .builtin .delete, args := #[tm, tx], argTypes := #[t, k] }) (v u : Value) (hm : a.eval tm = v) (hx : a.eval tx = u)
    (hr : (Builtin.delete_ #[t, k] op.type #[v, u]).run Try.prog w = .ok (.tuple #[]) w') (h : K (a.put op.dst (.tuple #[])) w') : op.wp Try.prog a w K Q := by
  unfold Oper.wp execOp
  simp only [ho, resolve, invoke, builtin, Sem.run_bind, Sem.run_pure, Result.andThen_ok, List.map_toArray, List.map_cons, List.map_nil, hm, hx, hr]
  exact h
section
variable {w : World} {p : Cq} {K : Ku}
theorem ChC.st {u : World} {R : Int → Option Rc} {D : Int → Option Unit} {P : Int → Option Int} (h : ChC w u p (stC p R D P)) : u.cell? ⟨p.g, 7, none⟩ = some (.map (some p.gr)) ∧ u.cell? ⟨p.g, 8, none⟩ = some (.map (some p.gd)) ∧ u.cell? ⟨p.g, 9, none⟩ = some (.map (some p.gp)) ∧ p.g < u.heap.size :=
  ⟨h.1.cells.2.1, h.1.cells.2.2.1, h.1.cells.2.2.2.1, h.1.cells.2.2.2.2.2⟩
theorem ChC.putR {u : World} {R : Int → Option Rc} {D : Int → Option Unit} {P : Int → Option Int} (h : ChC w u p (stC p R D P)) {A : List Int} (hA : ∀ z, (R z).isSome = true → z ∈ A) (hl : A.length ≤ 1000) (x : Rc) (hx : Rg x.id) :
    ∃ u', (Instr.mapUpdate 66 (.map (some p.gr)) (.int .i64 x.id) (.agg (cRc x).toArray)).run Try.prog u = .ok () u' ∧ ChC w u' p (stC p (upm R x.id (some x)) D P) ∧ u.grownBy u' (some p.gr) := by
  obtain ⟨u', h1, h2, h3⟩ := h.1.rcs.put hx x (x.id :: A) (fun y hy => by
    unfold upm at hy
    by_cases c : y = x.id
    · rw [c]; exact List.mem_cons_self
    · rw [if_neg c] at hy
      exact List.mem_cons_of_mem _ (hA y hy)) (by rw [List.length_cons]; omega)
  exact ⟨u', h1, h.join (h.1.setR h2 h3), h3⟩
theorem ChC.putD {u : World} {R : Int → Option Rc} {D : Int → Option Unit} {P : Int → Option Int} (h : ChC w u p (stC p R D P)) {A : List Int} (hA : ∀ z, (D z).isSome = true → z ∈ A) (hl : A.length ≤ 1000) (y : Int) (hx : Rg y) :
    ∃ u', (Instr.mapUpdate 67 (.map (some p.gd)) (.int .i64 y) (.agg #[])).run Try.prog u = .ok () u' ∧ ChC w u' p (stC p R (upm D y (some ())) P) ∧ u.grownBy u' (some p.gd) := by
  obtain ⟨u', h1, h2, h3⟩ := h.1.dir.put hx () (y :: A) (fun z hz => by
    unfold upm at hz
    by_cases c : z = y
    · rw [c]; exact List.mem_cons_self
    · rw [if_neg c] at hz
      exact List.mem_cons_of_mem _ (hA z hz)) (by rw [List.length_cons]; omega)
  exact ⟨u', h1, h.join (h.1.setD h2 h3), h3⟩
theorem ChC.delR {u : World} {R : Int → Option Rc} {D : Int → Option Unit} {P : Int → Option Int} (h : ChC w u p (stC p R D P)) (y : Int) (hx : Rg y) :
    ∃ u', (∀ ty, (Builtin.delete_ #[66, 46] ty #[.map (some p.gr), .int .i64 y]).run Try.prog u = .ok (.tuple #[]) u') ∧ ChC w u' p (stC p (upm R y none) D P) ∧ u.grownBy u' (some p.gr) := by
  obtain ⟨u', h1, h2, h3⟩ := h.1.rcs.del hx
  exact ⟨u', h1, h.join (h.1.setR h2 h3), h3⟩
theorem ChC.delD {u : World} {R : Int → Option Rc} {D : Int → Option Unit} {P : Int → Option Int} (h : ChC w u p (stC p R D P)) (y : Int) (hx : Rg y) :
    ∃ u', (∀ ty, (Builtin.delete_ #[67, 46] ty #[.map (some p.gd), .int .i64 y]).run Try.prog u = .ok (.tuple #[]) u') ∧ ChC w u' p (stC p R (upm D y none) P) ∧ u.grownBy u' (some p.gd) := by
  obtain ⟨u', h1, h2, h3⟩ := h.1.dir.del hx
  exact ⟨u', h1, h.join (h.1.setD h2 h3), h3⟩
theorem ChC.delP {u : World} {R : Int → Option Rc} {D : Int → Option Unit} {P : Int → Option Int} (h : ChC w u p (stC p R D P)) (y : Int) (hx : Rg y) :
    ∃ u', (∀ ty, (Builtin.delete_ #[68, 46] ty #[.map (some p.gp), .int .i64 y]).run Try.prog u = .ok (.tuple #[]) u') ∧ ChC w u' p (stC p R D (upm P y none)) ∧ u.grownBy u' (some p.gp) := by
  obtain ⟨u', h1, h2, h3⟩ := h.1.dep.del hx
  exact ⟨u', h1, h.join (h.1.setP h2 h3), h3⟩
theorem LiK.put {R : Int → Option Rc} {D : Int → Option Unit} {P : Int → Option Int} (hk : KOk K) (h : LiK K (stC p R D P)) (r : Rc) : LiK (putK K r) (stC p (upm R r.id (some r)) (upm D r.id (some ())) (upm P r.id none)) := by
  refine ⟨h.v, fun z => ?_, fun z => ?_, fun z => ?_, h.n, h.up⟩
  · show upm R r.id (some r) z = look z (insR r K.R)
    rw [insR_look hk.rise, look_one]
    unfold upm
    by_cases c : z = r.id
    · rw [if_pos c, if_pos c.symm, Option.some_or]
    · rw [if_neg c, if_neg (fun e => c e.symm), Option.none_or]
      exact h.r z
  · show upm D r.id (some ()) z = if z ∈ dput K.D r.id then some () else none
    have hd := h.d z
    unfold upm
    by_cases c : z = r.id
    · rw [if_pos c, if_pos (dput_mem.2 (Or.inr c))]
    · rw [if_neg c]
      by_cases d : z ∈ K.D
      · rw [if_pos (dput_mem.2 (Or.inl d))]
        rw [if_pos d] at hd
        exact hd
      · rw [if_neg (fun q => (dput_mem.1 q).elim d c)]
        rw [if_neg d] at hd
        exact hd
  · show upm P r.id none z = if z ∈ (insR r K.R).map Rc.id ∧ z ∉ dput K.D r.id then sD15 K.S z else none
    have hp := h.p z
    unfold upm
    by_cases c : z = r.id
    · rw [if_pos c, if_neg (fun q => q.2 (dput_mem.2 (Or.inr c)))]
    · rw [if_neg c]
      by_cases d : z ∈ K.R.map Rc.id ∧ z ∉ K.D
      · rw [if_pos ⟨(insR_names hk.rise).2 (Or.inr d.1), fun q => (dput_mem.1 q).elim d.2 c⟩]
        rw [if_pos d] at hp
        exact hp
      · rw [if_neg (fun q => d ⟨((insR_names hk.rise).1 q.1).elim (fun e => absurd e c) id, fun e => q.2 (dput_mem.2 (Or.inl e))⟩)]
        rw [if_neg d] at hp
        exact hp
theorem LiK.drop {R : Int → Option Rc} {D : Int → Option Unit} {P : Int → Option Int} (h : LiK K (stC p R D P)) (x : Int) : LiK (dropK K x) (stC p (upm R x none) (upm D x none) (upm P x none)) := by
  refine ⟨h.v, fun z => ?_, fun z => ?_, fun z => ?_, h.n, h.up⟩
  · show upm R x none z = look z (remL K.R [x])
    rw [look_rem]
    unfold upm
    by_cases c : z = x
    · rw [if_pos c, if_pos (by rw [c]; exact List.mem_singleton_self _)]
    · rw [if_neg c, if_neg (fun q => c (List.mem_singleton.1 q))]
      exact h.r z
  · show upm D x none z = if z ∈ K.D.filter (fun y => !decide (y = x)) then some () else none
    have hd := h.d z
    unfold upm
    by_cases c : z = x
    · rw [if_pos c, if_neg (fun q => by
        have := (List.mem_filter.1 q).2
        rw [c] at this
        simp at this)]
    · rw [if_neg c]
      by_cases d : z ∈ K.D
      · rw [if_pos (List.mem_filter.2 ⟨d, by simp [c]⟩)]
        rw [if_pos d] at hd
        exact hd
      · rw [if_neg (fun q => d (List.mem_filter.1 q).1)]
        rw [if_neg d] at hd
        exact hd
  · show upm P x none z = if z ∈ (remL K.R [x]).map Rc.id ∧ z ∉ K.D.filter (fun y => !decide (y = x)) then sD15 K.S z else none
    have hp := h.p z
    unfold upm
    by_cases c : z = x
    · rw [if_pos c, if_neg (fun q => (rem_names.1 q.1).2 c)]
    · rw [if_neg c]
      by_cases d : z ∈ K.R.map Rc.id ∧ z ∉ K.D
      · rw [if_pos ⟨rem_names.2 ⟨d.1, c⟩, fun q => d.2 (List.mem_filter.1 q).1⟩]
        rw [if_pos d] at hp
        exact hp
      · rw [if_neg (fun q => d ⟨(rem_names.1 q.1).1, fun e => q.2 (List.mem_filter.2 ⟨e, by simp [c]⟩)⟩)]
        rw [if_neg d] at hp
        exact hp
theorem LiK.rIn {R : Int → Option Rc} {D : Int → Option Unit} {P : Int → Option Int} (h : LiK K (stC p R D P)) (z : Int) (hz : (R z).isSome = true) : z ∈ K.R.map Rc.id := look_isSome15.1 (by rw [← h.r z]; exact hz)
theorem LiK.dIn {R : Int → Option Rc} {D : Int → Option Unit} {P : Int → Option Int} (h : LiK K (stC p R D P)) (z : Int) (hz : (D z).isSome = true) : z ∈ K.D := by
  have hd : D z = if z ∈ K.D then some () else none := h.d z
  by_cases c : z ∈ K.D
  · exact c
  · rw [hd, if_neg c] at hz; cases hz
theorem blk_grown15 {u u' : World} {m g5 : Nat} {t : TypeId} {X : Array Value} (k : Blk u g5 t X) (hg : u.grownBy u' (some m)) (hne : g5 ≠ m) : Blk u' g5 t X := k.same (hg.block g5 k.lt (by intro e; injection e with e; exact hne e))
set_option maxHeartbeats 16000000 in
set_option maxRecDepth 100000 in
theorem cput15_any (hk : KOk K) (hK : LiK K p) (h : LC w p) (a : Option Addr) (n cap : Nat) (l : List Rc) (hl : K.R.length + n ≤ 200) (hn : n ≤ 40) (row : RcRow w a n l) (ha : AwX (footC p) a n) (hr : ∀ r ∈ l, Rg r.id) :
    Calls Try.prog 8 #[.pointer (some ⟨p.g, 0, none⟩), .slice a n cap] w fun e w' => e = .returned (.tuple #[]) ∧ ∃ q, q.g = p.g ∧ ChC w w' p q ∧ LiK (putsK K l) q := by
  have HRow : Hid (∀ u R D P, ChC w u p (stC p R D P) → RcRow u a n l) := Lib.hid (fun u R D P k => rowx_frame row ha k.2.1)
  have HLen : Hid (l.length = n) := Lib.hid row.1
  have HKj : Hid (∀ j, KOk (putsK K (l.take j))) := Lib.hid (fun j => KOk.puts hk (fun r hr' => hr r (List.mem_of_mem_take hr')))
  have hRl : ∀ j, j ≤ n → (putsK K (l.take j)).R.length ≤ 200 := fun j hj => by
    have h1 := puts_len (l.take j) K
    rw [List.length_take] at h1
    omega
  have HS0 : Hid (ChC w w p (stC p p.R p.D p.P) ∧ LiK (putsK K (l.take 0)) (stC p p.R p.D p.P)) := Lib.hid ⟨ChC.still h (Below.refl _ _), by rw [List.take_zero]; exact hK⟩
  have HP1 : Hid (∀ u j R D P x, j ≤ n → ChC w u p (stC p R D P) → LiK (putsK K (l.take j)) (stC p R D P) → Rg x.id → ∃ u', (Instr.mapUpdate 66 (.map (some p.gr)) (.int .i64 x.id) (.agg (cRc x).toArray)).run Try.prog u = .ok () u' ∧ ChC w u' p (stC p (upm R x.id (some x)) D P) ∧ u.grownBy u' (some p.gr)) := Lib.hid (fun u j R D P x hj k hL hx => k.putR (fun z hz => hL.rIn z hz) (by rw [List.length_map]; have := hRl j hj; omega) x hx)
  have HP2 : Hid (∀ u j R R' D P y, j ≤ n → ChC w u p (stC p R' D P) → LiK (putsK K (l.take j)) (stC p R D P) → Rg y → ∃ u', (Instr.mapUpdate 67 (.map (some p.gd)) (.int .i64 y) (.agg #[])).run Try.prog u = .ok () u' ∧ ChC w u' p (stC p R' (upm D y (some ())) P) ∧ u.grownBy u' (some p.gd)) := Lib.hid (fun u j R R' D P y hj k hL hx => k.putD (fun z hz => hL.dIn z hz) (by have := hRl j hj; have := (HKj.out j).dlen; omega) y hx)
  have HP3 : Hid (∀ u R D P y, ChC w u p (stC p R D P) → Rg y → ∃ u', (∀ ty, (Builtin.delete_ #[68, 46] ty #[.map (some p.gp), .int .i64 y]).run Try.prog u = .ok (.tuple #[]) u') ∧ ChC w u' p (stC p R D (upm P y none)) ∧ u.grownBy u' (some p.gp)) := Lib.hid (fun u R D P y k hx => k.delP y hx)
  have HLi : Hid (∀ j R D P x, l[j]? = some x → LiK (putsK K (l.take j)) (stC p R D P) → LiK (putsK K (l.take (j + 1))) (stC p (upm R x.id (some x)) (upm D x.id (some ())) (upm P x.id none))) := Lib.hid (fun j R D P x hx hL => by
    rw [puts_snoc hx]
    exact hL.put (HKj.out j) x)
  have HRg := Lib.hid hr
  have HCs : Hid (∀ u R D P, ChC w u p (stC p R D P) → u.cell? ⟨p.g, 7, none⟩ = some (.map (some p.gr)) ∧ u.cell? ⟨p.g, 8, none⟩ = some (.map (some p.gd)) ∧ u.cell? ⟨p.g, 9, none⟩ = some (.map (some p.gp)) ∧ p.g < u.heap.size) := Lib.hid (fun u R D P k => k.st)
  have hb1 := h.rcs.lt
  have hb2 := h.dir.lt
  have hb3 := h.dep.lt
  have HEnd : Hid (∀ u R D P, ChC w u p (stC p R D P) → LiK (putsK K l) (stC p R D P) → ∃ q, q.g = p.g ∧ ChC w u p q ∧ LiK (putsK K l) q) := Lib.hid (fun u R D P k hL => ⟨stC p R D P, rfl, k, hL⟩)
  obtain ⟨g, hge⟩ : ∃ g, g = p.g := ⟨_, rfl⟩
  obtain ⟨gr, hgr⟩ : ∃ g, g = p.gr := ⟨_, rfl⟩
  obtain ⟨gd, hgd⟩ : ∃ g, g = p.gd := ⟨_, rfl⟩
  obtain ⟨gp, hgp⟩ : ∃ g, g = p.gp := ⟨_, rfl⟩
  rw [← hge, ← hgr, ← hgd, ← hgp] at HCs
  rw [← hgr] at HP1 hb1
  rw [← hgd] at HP2 hb2
  rw [← hgp] at HP3 hb3
  rw [← hge] at HEnd ⊢
  clear h row ha hr hk hK hl hge hgr hgd hgp hRl HKj
  go_enter Try.func8, Try.ntmps8
  go_wp2
  go_loopw [5, 10] (fun _ i wr => ∃ (j : Nat) (R : Int → Option Rc) (D : Int → Option Unit) (P : Int → Option Int), j ≤ n ∧ i = .int .i64 j ∧ ChC w wr p (stC p R D P) ∧ LiK (putsK K (l.take j)) (stC p R D P)) (fun _ i _ => n - (ivl i).toNat)
  case atStart => exact ⟨0, _, _, _, by omega, rfl, HS0.out.1, HS0.out.2⟩
  case round =>
    clear HS0
    obtain ⟨j, R, D, P, hj, rfl, hch, hli⟩ := hrel
    have HC := Lib.hid hch
    have HL := Lib.hid hli
    have hrw := HRow.out _ _ _ _ hch
    have hwr := hch.2.1.2.2.2.1
    clear hch hli
    by_cases hlt : j < n
    · obtain ⟨b, off, x, rfl, hbl, hx, hr⟩ := hrw.at_ hlt
      have j0 : (0 : Int) ≤ (j : Int) := by omega
      have j1 : (j : Int) < (n : Int) := by omega
      have HX := Lib.hid hx
      have HR0 := Lib.hid hr
      have hxr := HRg.out x (List.mem_of_getElem? hx)
      have HSz := Lib.hid (rc_size x)
      have HRX : Hid ((Try.prog.info? 52).map (·.size) = some (cRc x).toArray.size) := Lib.hid (by rw [List.size_toArray]; exact rc_size x)
      have HRo := Lib.hid (rc_all x)
      have HCi : Hid (∀ W g, Blk W g 52 (cRc x).toArray → W.cell? ⟨g, 0, none⟩ = some (.int .i64 x.id)) := Lib.hid (fun W g q => q.cell 0)
      have HTh : Hid ((wr.alloc (.cells (cRc zRc).toArray 52)).there wr.heap.size 0 (cRc x).toArray.size) := Lib.hid (blk_there (Blk.new wr _ _) (by rw [List.size_toArray]; exact Nat.le_refl 12))
      have HE5 : Hid (Blk ((wr.alloc (.cells (cRc zRc).toArray 52)).setCells wr.heap.size 0 (cRc x)) wr.heap.size 52 (cRc x).toArray ∧ Below wr.heap.size wr ((wr.alloc (.cells (cRc zRc).toArray 52)).setCells wr.heap.size 0 (cRc x))) := Lib.hid ⟨blk_over (Blk.new wr _ _) rfl, below_setCells (cRc x) (alloc_below _ _) (Nat.le_refl _)⟩
      have HP1x : Hid (∀ u R D P, ChC w u p (stC p R D P) → LiK (putsK K (l.take j)) (stC p R D P) → ∃ u', (Instr.mapUpdate 66 (.map (some gr)) (.int .i64 x.id) (.agg (cRc x).toArray)).run Try.prog u = .ok () u' ∧ ChC w u' p (stC p (upm R x.id (some x)) D P) ∧ u.grownBy u' (some gr)) := Lib.hid (fun u R D P k hL => HP1.out u j R D P x hj k hL hxr)
      have HP2x : Hid (∀ u R R' D P, ChC w u p (stC p R' D P) → LiK (putsK K (l.take j)) (stC p R D P) → ∃ u', (Instr.mapUpdate 67 (.map (some gd)) (.int .i64 x.id) (.agg #[])).run Try.prog u = .ok () u' ∧ ChC w u' p (stC p R' (upm D x.id (some ())) P) ∧ u.grownBy u' (some gd)) := Lib.hid (fun u R R' D P k hL => HP2.out u j R R' D P x.id hj k hL hxr)
      have HP3x : Hid (∀ u R D P, ChC w u p (stC p R D P) → ∃ u', (∀ ty, (Builtin.delete_ #[68, 46] ty #[.map (some gp), .int .i64 x.id]).run Try.prog u = .ok (.tuple #[]) u') ∧ ChC w u' p (stC p R D (upm P x.id none)) ∧ u.grownBy u' (some gp)) := Lib.hid (fun u R D P k => HP3.out u R D P x.id k hxr)
      have HNx := Lib.hid (HLi.out j R D P x hx HL.out)
      obtain ⟨XX, hXX⟩ : ∃ XX, XX = cRc x := ⟨_, rfl⟩
      obtain ⟨y, hy⟩ : ∃ y, y = x.id := ⟨_, rfl⟩
      rw [← hXX] at HR0 HSz HRX HRo HCi HTh HE5 HP1x
      rw [← hy] at HCi HP1x HP2x HP3x HNx
      clear hrw hx hr hxr hXX hy HP1 HP2 HP3 HLi HEnd HRg
      go_upto_region 4 with (first
        | refine wpList_load_mid rfl 52 (.tmp 12) rfl b (off + j * 12) rfl XX _ HR0.out Try.underlying52 rfl HSz.out ?_
        | refine wpList_store_mid rfl 52 (.tmp 5) (.tmp 13) rfl wr.heap.size 0 XX.toArray rfl rfl HTh.out HRX.out HRo.out ?_)
      refine fin (fun W => Blk W wr.heap.size 52 XX.toArray ∧ Below wr.heap.size wr W) HE5.out ?_
      obtain ⟨g5, hg5⟩ : ∃ g, g = wr.heap.size := ⟨_, rfl⟩
      rw [← hg5] at hwr
      clear HE5 HTh HR0 HRX HRo hbl
      rw [← hg5]
      rintro W ⟨k5, hbW⟩
      try rw [hg5] at hbW
      have hcW := HC.out.behind hbW
      have hcWd := hcW.behind (below_drew15 W)
      obtain ⟨W1, r1, hc1, hgr1⟩ := HP1x.out W.drew R D P hcWd HL.out
      have k51 : Blk W1 g5 52 XX.toArray := blk_grown15 (k5.keep (below_drew15 W)) hgr1 (by omega)
      obtain ⟨c7, -, -, hgl⟩ := HCs.out _ _ _ _ hcW
      obtain ⟨c71, -, -, hgl1⟩ := HCs.out _ _ _ _ hc1
      have SA : Hid (W.cell? ⟨g, 7, none⟩ = some (.map (some gr)) ∧ W.cell? ⟨g5, 0, none⟩ = some (.int .i64 y) ∧ W.rangeAt g5 0 XX) := Lib.hid ⟨c7, HCi.out _ _ k5, blk_whole k5⟩
      have SE : Hid (W1.cell? ⟨g, 7, none⟩ = some (.map (some gr)) ∧ W1.cell? ⟨g5, 0, none⟩ = some (.int .i64 y) ∧ W1.rangeAt g5 0 XX) := Lib.hid ⟨c71, HCi.out _ _ k51, blk_whole k51⟩
      have hl5 := k5.lt
      have HQ1 := Lib.hid (And.intro hc1 k51)
      clear hcW hcWd hc1 k51 hgr1 c7 c71 hgl1 k5 hbW HC hg5 hlt
      go_wp2
      refine wp_region_held_drew (S := fun w' => w'.cell? ⟨g, 7, none⟩ = some (.map (some gr)) ∧ w'.cell? ⟨g5, 0, none⟩ = some (.int .i64 y) ∧ w'.rangeAt g5 0 XX) (by kernel_rfl) (SA.out) (fun hHeld => ?_)
      refine tk 0 hHeld ?_
      refine tk 1 hHeld ?_
      refine tk 2 hHeld ?_
      refine tk 3 hHeld ?_
      refine tk 4 hHeld ?_
      refine tk 5 hHeld ?_
      refine tkl 6 rfl (yieldsIf_load_mid (by rfl) _ _ rfl _ _ rfl _ _ (fun _ h => h.2.2) Try.underlying52 rfl HSz.out) hHeld ?_
      refine rd 7 (fun K hK => ?_)
      go_simp
      refine hK.out _ _ (SE.out) (fun hHeld => ?_)
      clear hK K
      refine wpAnyH_done (by kernel_rfl) ?_ _
      clear hHeld SA SE r1 hgl hl5
      go_upto_region 5 with fail
      refine fin (fun W => ChC w W p (stC p (upm R y (some x)) D P) ∧ Blk W g5 52 XX.toArray) HQ1.out ?_
      clear HQ1
      rintro W ⟨hcW, k5⟩
      have hcWd := hcW.behind (below_drew15 W)
      obtain ⟨W1, r1, hc1, hgr1⟩ := HP2x.out W.drew R _ D P hcWd HL.out
      have k51 : Blk W1 g5 52 XX.toArray := blk_grown15 (k5.keep (below_drew15 W)) hgr1 (by omega)
      obtain ⟨-, c7, -, hgl⟩ := HCs.out _ _ _ _ hcW
      obtain ⟨-, c71, -, hgl1⟩ := HCs.out _ _ _ _ hc1
      have SA : Hid (W.cell? ⟨g, 8, none⟩ = some (.map (some gd)) ∧ W.cell? ⟨g5, 0, none⟩ = some (.int .i64 y)) := Lib.hid ⟨c7, HCi.out _ _ k5⟩
      have SE : Hid (W1.cell? ⟨g, 8, none⟩ = some (.map (some gd)) ∧ W1.cell? ⟨g5, 0, none⟩ = some (.int .i64 y)) := Lib.hid ⟨c71, HCi.out _ _ k51⟩
      have hl5 := k5.lt
      have HQ1 := Lib.hid (And.intro hc1 k51)
      clear hcW hcWd hc1 k51 hgr1 c7 c71 hgl1 k5
      go_wp2
      refine wp_region_held_drew (S := fun w' => w'.cell? ⟨g, 8, none⟩ = some (.map (some gd)) ∧ w'.cell? ⟨g5, 0, none⟩ = some (.int .i64 y)) (by kernel_rfl) (SA.out) (fun hHeld => ?_)
      refine tk 0 hHeld ?_
      refine tk 1 hHeld ?_
      refine tk 2 hHeld ?_
      refine tk 3 hHeld ?_
      refine tk 4 hHeld ?_
      refine tk 5 hHeld ?_
      refine tk 6 hHeld ?_
      refine rd 7 (fun K hK => ?_)
      go_simp
      refine hK.out _ _ (SE.out) (fun hHeld => ?_)
      clear hK K
      refine wpAnyH_done (by kernel_rfl) ?_ _
      clear hHeld SA SE r1 hgl hl5
      go_upto_region 6 with fail
      refine fin (fun W => ChC w W p (stC p (upm R y (some x)) (upm D y (some ())) P) ∧ Blk W g5 52 XX.toArray) HQ1.out ?_
      clear HQ1
      rintro W ⟨hcW, k5⟩
      have hcWd := hcW.behind (below_drew15 W)
      obtain ⟨W1, r1, hc1, hgr1⟩ := HP3x.out W.drew _ _ P hcWd
      have k51 : Blk W1 g5 52 XX.toArray := blk_grown15 (k5.keep (below_drew15 W)) hgr1 (by omega)
      obtain ⟨-, -, c7, hgl⟩ := HCs.out _ _ _ _ hcW
      obtain ⟨-, -, c71, hgl1⟩ := HCs.out _ _ _ _ hc1
      have SA : Hid (W.cell? ⟨g, 9, none⟩ = some (.map (some gp)) ∧ W.cell? ⟨g5, 0, none⟩ = some (.int .i64 y)) := Lib.hid ⟨c7, HCi.out _ _ k5⟩
      have SE : Hid (W1.cell? ⟨g, 9, none⟩ = some (.map (some gp)) ∧ W1.cell? ⟨g5, 0, none⟩ = some (.int .i64 y)) := Lib.hid ⟨c71, HCi.out _ _ k51⟩
      have hl5 := k5.lt
      have HQ1 := Lib.hid hc1
      clear hcW hcWd hc1 k51 hgr1 c7 c71 hgl1 k5
      go_wp2
      refine wp_region_held_drew (S := fun w' => w'.cell? ⟨g, 9, none⟩ = some (.map (some gp)) ∧ w'.cell? ⟨g5, 0, none⟩ = some (.int .i64 y)) (by kernel_rfl) (SA.out) (fun hHeld => ?_)
      refine tk 0 hHeld ?_
      refine tk 1 hHeld ?_
      refine tk 2 hHeld ?_
      refine tk 3 hHeld ?_
      refine tk 4 hHeld ?_
      refine tk 5 hHeld ?_
      refine rd 6 (fun K hK => ?_)
      rw [if_pos (by rfl)]
      refine wp_del15 (.tmp 31) (.tmp 33) 68 46 rfl _ _ rfl rfl (r1 _) ?_
      refine hK.out _ _ (SE.out) (fun hHeld => ?_)
      clear hK K
      refine wpAnyH_done (by kernel_rfl) ?_ _
      clear hHeld SA SE r1 hgl hl5
      have HR := Lib.hid (And.intro HQ1.out HNx.out)
      clear HQ1 HNx HP1x HP2x HP3x
      go_wp2
      go_roundw
      case rel => exact ⟨j + 1, _, _, _, by omega, by go_num, HR.out.1, HR.out.2⟩
      case measure => simp [ivl] <;> omega
    · obtain rfl : j = n := by omega
      have e0 : l.take j = l := List.take_of_length_le (by rw [HLen.out]; exact Nat.le_refl _)
      rw [e0] at HL
      have HE := Lib.hid (HEnd.out _ _ _ _ HC.out HL.out)
      have j1 : ¬ (j : Int) < (j : Int) := by omega
      clear e0 hrw HC HL HP1 HP2 HP3 HLi HEnd
      go_wp2
      go_end0
      exact ⟨rfl, HE.out⟩
theorem ChC.putP {u : World} {R : Int → Option Rc} {D : Int → Option Unit} {P : Int → Option Int} (h : ChC w u p (stC p R D P)) {A : List Int} (hA : ∀ z, (P z).isSome = true → z ∈ A) (hl : A.length ≤ 1000) (y d : Int) (hx : Rg y) :
    ∃ u', (Instr.mapUpdate 68 (.map (some p.gp)) (.int .i64 y) (.int .i64 d)).run Try.prog u = .ok () u' ∧ ChC w u' p (stC p R D (upm P y (some d))) ∧ u.grownBy u' (some p.gp) := by
  obtain ⟨u', h1, h2, h3⟩ := h.1.dep.put hx d (y :: A) (fun z hz => by
    unfold upm at hz
    by_cases c : z = y
    · rw [c]; exact List.mem_cons_self
    · rw [if_neg c] at hz
      exact List.mem_cons_of_mem _ (hA z hz)) (by rw [List.length_cons]; omega)
  exact ⟨u', h1, h.join (h.1.setP h2 h3), h3⟩
theorem ChC.lenR {u : World} {R : Int → Option Rc} {D : Int → Option Unit} {P : Int → Option Int} (h : ChC w u p (stC p R D P)) (hk : KOk K) (hL : LiK K (stC p R D P)) (ty : TypeId) :
    (Builtin.len_ #[66] ty #[.map (some p.gr)]).run Try.prog u = .ok (.int .i64 (K.R.length : Nat)) u := by
  have h1 := h.1.rcs.len15 (K.R.map Rc.id) (rise_nod15 hk.rise) (fun z => by
    show z ∈ K.R.map Rc.id ↔ Rg z ∧ (R z).isSome = true
    rw [show R z = look z K.R from hL.r z, look_isSome15]
    refine ⟨fun c => ⟨?_, c⟩, And.right⟩
    obtain ⟨x, hx, e⟩ := List.mem_map.1 c
    rw [← e]
    exact hk.rg x hx) ty
  rw [List.length_map] at h1
  exact h1
set_option maxHeartbeats 8000000 in
set_option maxRecDepth 100000 in
theorem cdrop15_any (hk : KOk K) (hKl : K.R.length ≤ 200) (hK : LiK K p) (h : LC w p) (a : Option Addr) (n cap : Nat) (xs : List Int) (row : Row w a n xs) (ha : Aw (footC p) a n) (hx : Rgs xs) :
    Calls Try.prog 14 #[.pointer (some ⟨p.g, 0, none⟩), .slice a n cap] w fun e w' => e = .returned (.int .i64 (dropC K xs : Nat)) ∧ ∃ q, q.g = p.g ∧ ChC w w' p q ∧ LiK (dropsK K xs) q := by
  have hbig := row.2.1
  have HRow : Hid (∀ u R D P, ChC w u p (stC p R D P) → Row u a n xs) := Lib.hid (fun u R D P k => row_frame row ha k.2.1)
  have HLen : Hid (xs.length = n) := Lib.hid row.1
  have HS0 : Hid (ChC w w p (stC p p.R p.D p.P) ∧ LiK (dropsK K (xs.take 0)) (stC p p.R p.D p.P)) := Lib.hid ⟨ChC.still h (Below.refl _ _), by rw [List.take_zero]; exact hK⟩
  have hl0 := (ChC.still (p := p) h (Below.refl _ _) : ChC w w p (stC p p.R p.D p.P)).lenR hk hK
  have HEn : Hid (∀ u R D P, ChC w u p (stC p R D P) → LiK (dropsK K xs) (stC p R D P) → (∀ ty, (Builtin.len_ #[66] ty #[.map (some p.gr)]).run Try.prog u = .ok (.int .i64 ((dropsK K xs).R.length : Nat)) u) ∧ ∃ q, q.g = p.g ∧ ChC w u p q ∧ LiK (dropsK K xs) q) := Lib.hid (fun u R D P k hL => ⟨fun ty => k.lenR (KOk.drops hk) hL ty, stC p R D P, rfl, k, hL⟩)
  have HDl : Hid ((dropsK K xs).R.length ≤ K.R.length ∧ dropC K xs = K.R.length - (dropsK K xs).R.length) := Lib.hid ⟨drops_len xs K, by rw [drops_R]; rfl⟩
  have HD1 : Hid (∀ u R D P y, ChC w u p (stC p R D P) → Rg y → ∃ u', (∀ ty, (Builtin.delete_ #[66, 46] ty #[.map (some p.gr), .int .i64 y]).run Try.prog u = .ok (.tuple #[]) u') ∧ ChC w u' p (stC p (upm R y none) D P)) := Lib.hid (fun u R D P y k hy => by
    obtain ⟨u', h1, h2, _⟩ := k.delR y hy
    exact ⟨u', h1, h2⟩)
  have HD2 : Hid (∀ u R D P y, ChC w u p (stC p R D P) → Rg y → ∃ u', (∀ ty, (Builtin.delete_ #[67, 46] ty #[.map (some p.gd), .int .i64 y]).run Try.prog u = .ok (.tuple #[]) u') ∧ ChC w u' p (stC p R (upm D y none) P)) := Lib.hid (fun u R D P y k hy => by
    obtain ⟨u', h1, h2, _⟩ := k.delD y hy
    exact ⟨u', h1, h2⟩)
  have HD3 : Hid (∀ u R D P y, ChC w u p (stC p R D P) → Rg y → ∃ u', (∀ ty, (Builtin.delete_ #[68, 46] ty #[.map (some p.gp), .int .i64 y]).run Try.prog u = .ok (.tuple #[]) u') ∧ ChC w u' p (stC p R D (upm P y none))) := Lib.hid (fun u R D P y k hy => by
    obtain ⟨u', h1, h2, _⟩ := k.delP y hy
    exact ⟨u', h1, h2⟩)
  have HLi : Hid (∀ j R D P y, xs[j]? = some y → LiK (dropsK K (xs.take j)) (stC p R D P) → LiK (dropsK K (xs.take (j + 1))) (stC p (upm R y none) (upm D y none) (upm P y none))) := Lib.hid (fun j R D P y hy hL => by
    rw [drops_snoc hy]
    exact hL.drop y)
  have HRg := Lib.hid hx
  have HCs : Hid (∀ u R D P, ChC w u p (stC p R D P) → u.cell? ⟨p.g, 7, none⟩ = some (.map (some p.gr)) ∧ u.cell? ⟨p.g, 8, none⟩ = some (.map (some p.gd)) ∧ u.cell? ⟨p.g, 9, none⟩ = some (.map (some p.gp)) ∧ p.g < u.heap.size) := Lib.hid (fun u R D P k => k.st)
  obtain ⟨-, c7, -, -, -, hg⟩ := h.cells
  obtain ⟨g, hge⟩ : ∃ g, g = p.g := ⟨_, rfl⟩
  obtain ⟨gr, hgr⟩ : ∃ g, g = p.gr := ⟨_, rfl⟩
  obtain ⟨gd, hgd⟩ : ∃ g, g = p.gd := ⟨_, rfl⟩
  obtain ⟨gp, hgp⟩ : ∃ g, g = p.gp := ⟨_, rfl⟩
  rw [← hge, ← hgr, ← hgd, ← hgp] at HCs
  rw [← hgr] at hl0 HD1
  rw [← hgd] at HD2
  rw [← hgp] at HD3
  rw [← hge, ← hgr] at HEn
  rw [← hge, ← hgr] at c7
  rw [← hge] at hg ⊢
  obtain ⟨n0, hn0⟩ : ∃ n0, n0 = K.R.length := ⟨_, rfl⟩
  obtain ⟨n1, hn1⟩ : ∃ n1, n1 = (dropsK K xs).R.length := ⟨_, rfl⟩
  rw [← hn0] at hl0 HDl hKl
  rw [← hn1] at HEn HDl
  clear h row ha hx hk hK hge hgr hgd hgp hn0 hn1
  go_enter Try.func14, Try.ntmps14
  go_wp2
  go_loopw [7, 17] (fun _ i wr => ∃ (j : Nat) (R : Int → Option Rc) (D : Int → Option Unit) (P : Int → Option Int), j ≤ n ∧ i = .int .i64 j ∧ ChC w wr p (stC p R D P) ∧ LiK (dropsK K (xs.take j)) (stC p R D P)) (fun _ i _ => n - (ivl i).toNat)
  case atStart => exact ⟨0, _, _, _, by omega, rfl, HS0.out.1, HS0.out.2⟩
  case round =>
    clear HS0 hl0 c7 hg
    obtain ⟨j, R, D, P, hj, rfl, hch, hli⟩ := hrel
    have HC := Lib.hid hch
    have HL := Lib.hid hli
    have hrw := HRow.out _ _ _ _ hch
    obtain ⟨c7, -, -, hg⟩ := HCs.out _ _ _ _ hch
    clear hch hli
    by_cases hlt : j < n
    · obtain ⟨b, off, z, rfl, hz, cz⟩ := row_at hrw hlt
      have hbl := World.block_lt_of_cell? _ _ cz
      have hzr := HRg.out z (List.mem_of_getElem? hz)
      obtain ⟨w1, r1, k1⟩ := HD1.out _ _ _ _ z HC.out hzr
      obtain ⟨-, c8, -, hg1⟩ := HCs.out _ _ _ _ k1
      obtain ⟨w2, r2, k2⟩ := HD2.out _ _ _ _ z k1 hzr
      obtain ⟨-, -, c9, hg2⟩ := HCs.out _ _ _ _ k2
      obtain ⟨w3, r3, k3⟩ := HD3.out _ _ _ _ z k2 hzr
      have HR := Lib.hid (And.intro k3 (HLi.out j _ _ _ z hz HL.out))
      have j0 : (0 : Int) ≤ (j : Int) := by omega
      have j1 : (j : Int) < (n : Int) := by omega
      clear hrw hz hzr k1 k2 k3 HC HL HD1 HD2 HD3 HLi HEn HDl HCs
      go_wp2_with (at_builtin; first | refine wpList_del15 rfl (.tmp 24) (.tmp 25) 66 46 rfl _ _ rfl rfl (r1 _) ?_ | refine wpList_del15 rfl (.tmp 29) (.tmp 30) 67 46 rfl _ _ rfl rfl (r2 _) ?_ | refine wpList_del15 rfl (.tmp 34) (.tmp 35) 68 46 rfl _ _ rfl rfl (r3 _) ?_)
      go_roundw
      case rel => exact ⟨j + 1, _, _, _, by omega, by go_num, HR.out.1, HR.out.2⟩
      case measure => simp [ivl] <;> omega
    · obtain rfl : j = n := by omega
      have e0 : xs.take j = xs := List.take_of_length_le (by rw [HLen.out]; exact Nat.le_refl _)
      rw [e0] at HL
      obtain ⟨hln, hq⟩ := HEn.out _ _ _ _ HC.out HL.out
      have HE := Lib.hid hq
      have hd1 := HDl.out.1
      have j1 : ¬ (j : Int) < (j : Int) := by omega
      clear e0 hrw HC HL HD1 HD2 HD3 HLi HEn hq HCs
      go_wp2
      go_ret
      exact ⟨by rw [HDl.out.2]; go_num, HE.out⟩
end
section
variable {w : World} {p : Cq} {K : Ku}
set_option maxHeartbeats 8000000 in
set_option maxRecDepth 100000 in
theorem cfind15_any (h : LC w p) (x : Rc) (hy : Rg x.id) (hR : p.R x.id = some x) {A : List Int} (hA : ∀ z, (p.P z).isSome = true → z ∈ A) (hl : A.length ≤ 1000) :
    Calls Try.prog 27 #[.pointer (some ⟨p.g, 0, none⟩), .int .i64 x.id] w fun e w' => e = .returned (.int .i64 (seeK p.V x).2.2) ∧ ChC w w' p (stC p p.R p.D (if (seeK p.V x).2.1 = true then upm p.P x.id (some (seeK p.V x).1) else p.P)) := by
  obtain ⟨c6, c7, -, c9, -, hg⟩ := h.cells
  have HSt : Hid (∀ u, Below w.heap.size w u → ChC w u p (stC p p.R p.D p.P)) := Lib.hid (fun u k => ChC.still h k)
  cases e : p.V with
  | none =>
    rw [e] at c6
    have c6' : w.cell? ⟨p.g, 6, none⟩ = some (.bool false) := c6
    have HE : Hid (ChC w w p (stC p p.R p.D (if (seeK none x).2.1 = true then upm p.P x.id (some (seeK none x).1) else p.P))) := Lib.hid (by
      rw [if_neg (fun q => by cases q)]
      exact HSt.out w (Below.refl _ _))
    obtain ⟨g, hge⟩ : ∃ g, g = p.g := ⟨_, rfl⟩
    rw [← hge] at c6' hg ⊢
    clear h hA hl hy hR c6 c7 c9 e HSt hge
    go_enter Try.func27, Try.ntmps27
    go_wp2
    go_ret
    exact ⟨rfl, HE.out⟩
  | some v =>
    rw [e] at c6
    have hsd := h.sid
    rw [e] at hsd
    obtain ⟨a, cap, hvs, _, _, row⟩ := hsd.row cPl_len
    have hrv := h.range
    rw [e, hvs] at hrv
    have hrv' : w.rangeAt p.g 0 (cVw (.slice a v.ps.length cap) v.eye v.m) := hrv
    have HRw : Hid (∀ W, Below w.heap.size w W → PlRow W a v.ps.length v.ps) := Lib.hid (fun W k => row.keep k)
    have HSee : Hid (∀ W, PlRow W a v.ps.length v.ps → Calls Try.prog 42 #[.agg (cVw (.slice a v.ps.length cap) v.eye v.m).toArray, .agg (cRc x).toArray] W fun e w' => e = .returned (ansT (seeT v x.ly (boxR x))) ∧ Below W.heap.size W w') := Lib.hid (fun W r => sees_any a v.ps.length cap v.ps v.eye v.m _ _ _ _ _ x.ly (boxR x) W r)
    have HVs := Lib.hid (vw_size (.slice a v.ps.length cap) v.eye v.m)
    have HS : Hid (∀ W, Below w.heap.size w W → W.cell? ⟨p.g, 7, none⟩ = some (.map (some p.gr)) ∧ W.rangeAt p.g 0 (cVw (.slice a v.ps.length cap) v.eye v.m) ∧ (Instr.lookup 66 (.map (some p.gr)) (.int .i64 x.id) false).run Try.prog W = .ok (.agg (cRc x).toArray) W) := Lib.hid (fun W k => by
      refine ⟨cell_keep c7 k, range_same hrv' (k.block _ hg), ?_⟩
      have h1 := (h.rcs.keep k).get hy
      rw [hR] at h1
      exact h1)
    have HPu : Hid (∀ W d, Below w.heap.size w W → W.cell? ⟨p.g, 9, none⟩ = some (.map (some p.gp)) ∧ p.g < W.heap.size ∧ ∃ u', (Instr.mapUpdate 68 (.map (some p.gp)) (.int .i64 x.id) (.int .i64 d)).run Try.prog W = .ok () u' ∧ ChC w u' p (stC p p.R p.D (upm p.P x.id (some d)))) := Lib.hid (fun W d k => by
      obtain ⟨u', h1, h2, _⟩ := (HSt.out W k).putP hA hl x.id d hy
      exact ⟨cell_keep c9 k, Nat.lt_of_lt_of_le hg k.size, u', h1, h2⟩)
    have c6' : w.cell? ⟨p.g, 6, none⟩ = some (.bool true) := c6
    obtain ⟨T, hT⟩ : ∃ T, T = seeT v x.ly (boxR x) := ⟨_, rfl⟩
    obtain ⟨d, s, er⟩ := T
    have hTT : seeK (some v) x = (d, s, er) := hT.symm
    rw [hTT]
    rw [← hT] at HSee
    obtain ⟨q, hq⟩ : ∃ q, q = v.ps.length := ⟨_, rfl⟩
    obtain ⟨XV, hXV⟩ : ∃ XV, XV = cVw (.slice a v.ps.length cap) v.eye v.m := ⟨_, rfl⟩
    obtain ⟨XR, hXR⟩ : ∃ XR, XR = cRc x := ⟨_, rfl⟩
    obtain ⟨y, hyy⟩ : ∃ y, y = x.id := ⟨_, rfl⟩
    obtain ⟨g, hge⟩ : ∃ g, g = p.g := ⟨_, rfl⟩
    obtain ⟨gr, hgr⟩ : ∃ g, g = p.gr := ⟨_, rfl⟩
    obtain ⟨gp, hgp⟩ : ∃ g, g = p.gp := ⟨_, rfl⟩
    rw [← hXV] at HSee HVs HS
    rw [← hXR] at HSee HS
    rw [← hyy, ← hge, ← hgr] at HS
    rw [← hyy, ← hge, ← hgp] at HPu
    rw [← hge] at c6' hg
    rw [← hyy, ← hge]
    clear h hA hl hy hR c6 c7 c9 e hT hTT hXV hXR hyy hge hgr hgp hsd hvs hrv hrv' row hq
    go_enter Try.func27, Try.ntmps27
    go_upto_region 3 with fail
    refine wp_region_held_drew (S := fun w' => w'.cell? ⟨g, 7, none⟩ = some (.map (some gr)) ∧ w'.rangeAt g 0 XV ∧ (Instr.lookup 66 (.map (some gr)) (.int .i64 y) false).run Try.prog w' = .ok (.agg XR.toArray) w') (by kernel_rfl) (HS.out _ (below_drew15 _)) (fun hHeld => ?_)
    refine tk 0 hHeld ?_
    refine tk 1 hHeld ?_
    refine tk 2 hHeld ?_
    refine tkl 3 rfl (yieldsIf_load_mid (by rfl) _ _ rfl _ _ rfl _ _ (fun _ h => h.2.1) Try.underlying42 rfl HVs.out) hHeld ?_
    refine tk 4 hHeld ?_
    refine tk 5 hHeld ?_
    refine tk 6 hHeld ?_
    refine tk 7 hHeld ?_
    refine tk 8 hHeld ?_
    refine tk 9 hHeld ?_
    refine rd 10 (fun K hK => ?_)
    go_simp
    go_at_call 42
    refine (HSee.out _ (HRw.out _ (below_drew15 _))).mono ?_
    rintro e w3 ⟨rfl, b3⟩
    have hB3 : Below w.heap.size w w3 := bthen (below_drew15 _) b3
    have HX3 := Lib.hid (HS.out w3 hB3)
    obtain ⟨c9, hg3, w4, r4, hc4⟩ := HPu.out w3 d hB3
    have HSt3 := Lib.hid (HSt.out w3 hB3)
    have HC4 := Lib.hid hc4
    unfold ansT
    clear b3 hB3 hc4 HPu HSt HRw HSee c6' hg
    go_wp2_with fail
    refine hK.out _ _ (HX3.out) (fun hHeld => ?_)
    clear hK K
    refine tk 11 hHeld ?_
    refine tk 12 hHeld ?_
    refine tk 13 hHeld ?_
    refine tk 14 hHeld ?_
    refine tk 15 hHeld ?_
    refine tk 16 hHeld ?_
    refine tk 17 hHeld ?_
    refine wpAnyH_done (by kernel_rfl) ?_ _
    clear hHeld HX3 HS
    cases s with
    | true =>
      go_wp2
      go_ret
      exact ⟨rfl, HC4.out⟩
    | false =>
      clear r4
      go_wp2
      go_ret
      exact ⟨rfl, HSt3.out⟩
end
end Go.Proofs.Ytjcibffhlhdjeaa
