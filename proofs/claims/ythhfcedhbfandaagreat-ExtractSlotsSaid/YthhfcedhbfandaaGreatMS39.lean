/-
  10 texts in one file, each with its own heading.
-/
import Derived.Test.YthhfcedhbfandaaGreatMS36
import Derived.Test.YthhfcedhbfandaaGreatMS38
import Derived.Test.YthhfcedhbfandaaGreatMS35
import Derived.Test.YthhfcedhbfandaaGreatMS27
import Derived.Test.YthhfcedhbfandaaGreatMS01
import Derived.Test.YthhfcedhbfandaaGreatRows
import Derived.Test.YthhfcedhbfandaaGreatMS13
import Derived.WalkKit
import Derived.ProofKit
import Derived.OpenShut
import Derived.ShutString
import Derived.ChangeOld
import Derived.Below
/-
  The live question and 'nothing' of the law of layer 11; the walk of ScenePlays, for any package that answers as the bundles say.
-/
namespace Go.Proofs.YthhfcedhbfandaaGreat
open Go.RowKit

theorem ChB.step {α : Type} {B : World → Nat → (Nat → Prop) → α → Prop} {b0 : Nat} {w0 w1 w2 : World} {g : Nat} {F : Nat → Prop} {x : α} (h : ChB B w1 w2 g F x) (hb : Below b0 w0 w1) (hF : ∀ b, F b → b0 ≤ b) (hs : b0 ≤ w1.heap.size) : ∃ F', B w2 g F' x ∧ Below b0 w0 w2 ∧ (∀ b, F' b → b0 ≤ b) ∧ b0 ≤ w2.heap.size := by
  obtain ⟨F', h1, h2, h3⟩ := h
  exact ⟨F', h1, Fr.below h2 hb hF hs, fun b hb => (h3 b hb).elim (fun c => hF b c) (fun c => Nat.le_trans hs c), Nat.le_trans hs h2.2.2.2.1⟩
structure N15 (Y : List Value) : Prop where
  nx : NXs Y 205
  c1 : Y[1]? = some (.int .i64 (-1))
  c2 : Y[2]? = some (.int .i64 65536)
  c14 : Y[14]? = some (.bool true)
section
variable {XB : World → Nat → (Nat → Prop) → Sc → Prop}
end
section
variable {XB : World → Nat → (Nat → Prop) → Sc → Prop}
end
theorem GoU.sp {S : St} (h : GoU S) (P : PT) : GoU (spS S P) := h.same (h.1.sp _) (by unfold spS; split <;> rfl)
theorem SX3.sp {X : Sc} (h : SX3 X) (P : PT) (p : Int) : SX3 (xspS X P p) := ⟨h.first.sp P p, by unfold xspS; split; exact h.go; exact h.go.sp P, by unfold xspS; split; exact h.marks; exact h.marks.sp P⟩
theorem SX3.de {X : Sc} (h : SX3 X) (id : Int) : SX3 (xdeS X id) := ⟨h.first.de id, by
  unfold xdeS
  split
  · have h1 := h.go.de h.wx.ws id
    exact h1.same (GoN.to _ h1.1) (to_go13 _ _)
  · exact h.go, by
  unfold xdeS
  split
  · exact NowOk.to _ (h.marks.de _)
  · exact h.marks⟩
theorem EOk.de {X : Sc} {E : XS} (h : EOk X E) (id : Int) : EOk (xdeS X id) E := h.imp (fun q => q) (fun ⟨X0, a, b, c, d, r⟩ => ⟨X0, a, b, c, d.de id, r⟩)
theorem anew_wk {o : Int → Option Rc} {zs : List Int} {R : List Rc} (ho : ∀ x r, o x = some r → r.id = x) (hz : zs.Pairwise (· < ·)) (hR : ∀ k ∈ R.map Rc.id, k ∈ zs) : Wk o R zs (zs.filterMap o) :=
  ⟨fresh_rise ho hz, fun k => by
    rw [look_fresh ho hz]
    by_cases c : k ∈ zs
    · rw [if_pos c, if_pos c]
    · rw [if_neg c, if_neg c]
      cases e : look k R with
      | none => rfl
      | some r => exact absurd (hR k (look_has.1 (by rw [e]; rfl))) c⟩
theorem synced_anew {X : Sc} {E : XS} {zs : List Int} (hn : namesX X E = zs) (hz : zs.Pairwise (· < ·)) (h0 : runE (takeD X E.D E.since) = 0) (h1 : firstE (eX X (takeD X E.D E.since).L) zs = 0) (hR : ∀ k ∈ E.R.map Rc.id, k ∈ zs) :
    Synced X E zs 0 ⟨runD (takeD X E.D E.since), zs.filterMap (oX X (takeD X E.D E.since).L), slotsD ((zs.filterMap (oX X (takeD X E.D E.since).L)).map Rc.id) E.S, X.S.now, E.n + zs.length⟩ := by
  subst hn
  exact Or.inr (Or.inr ⟨h0, h1, rfl, rfl, _, anew_wk (fun _ _ q => oX_id q) hz hR, rfl⟩)
theorem synced_still {X : Sc} {E : XS} (hn : namesX X E = []) (h0 : runE (takeD X E.D E.since) = 0) (hR : Rise E.R) : Synced X E [] 0 ⟨runD (takeD X E.D E.since), E.R, slotsD (E.R.map Rc.id) E.S, X.S.now, E.n⟩ :=
  Or.inr (Or.inr ⟨h0, by rw [hn]; rfl, hn.symm, rfl, E.R, by rw [hn]; exact Wk.nil hR, by rw [hn]; rfl⟩)
def m13 : Nat → Int := fun i => if i = 3 then 5 else if i = 0 ∨ i = 5 ∨ i = 10 then 65536 else 0
def q13 : PT := (7, m13, 2, zI, 0, 0, false, 0)
def x130 : Sc := Sc0 9
def x131 : Sc := xspS x130 q13 (-1)
def x132 : Sc := xspS x131 q13 0
def x133 : Sc := xneS x132
def x134 : Sc := xneS x133
def x135 : Sc := xdeS x134 0
def d131 : FD := takeD x132 FD0 0
def r131 : List Rc := [0, 1].filterMap (oX x132 d131.L)
def e131 : XS := ⟨runD d131, r131, slotsD (r131.map Rc.id) [], 1, 2⟩
def d132 : FD := takeD x133 e131.D e131.since
def e132 : XS := ⟨runD d132, r131, slotsD (r131.map Rc.id) e131.S, 2, 2⟩
def d133 : FD := takeD x135 e132.D e132.since
def r133 : List Rc := [0, 1].filterMap (oX x135 d133.L)
def e133 : XS := ⟨runD d133, r133, slotsD (r133.map Rc.id) e132.S, 3, 4⟩
theorem t131 : xspV x130 q13 (-1) = 0 ∧ xspE x130 q13 (-1) = 0 := by decide +kernel
theorem t132 : xspV x131 q13 0 = 1 ∧ xspE x131 q13 0 = 0 := by decide +kernel
theorem t133 : namesX x132 XS0 = [0, 1] ∧ runE d131 = 0 ∧ firstE (eX x132 d131.L) [0, 1] = 0 := by decide +kernel
theorem t134 : namesX x133 e131 = [] ∧ runE d132 = 0 := by decide +kernel
theorem t135 : deE x134.S 0 = 0 := by decide +kernel
theorem t136 : namesX x135 e132 = [0, 1] ∧ runE d133 = 0 ∧ firstE (eX x135 d133.L) [0, 1] = 0 ∧ (∀ k ∈ e132.R.map Rc.id, k ∈ ([0, 1] : List Int)) := by decide +kernel
theorem t137 : r133.map (fun r => (r.id, r.x3)) = [(1, 5)] ∧ slotD e133.S 1 = 1 ∧ slotD e133.S 0 = -1 := by decide +kernel
theorem t138 : x132.S.now = 1 ∧ x133.S.now = 2 ∧ x135.S.now = 3 := by decide +kernel
theorem up01 : ([0, 1] : List Int).Pairwise (· < ·) := by decide
theorem y131 : Synced x132 XS0 [0, 1] 0 e131 := synced_anew (E := XS0) t133.1 up01 t133.2.1 t133.2.2 (fun k h => by cases h)
theorem rise131 : Rise r131 := fresh_rise (fun _ _ q => oX_id q) up01
theorem y132 : Synced x133 e131 [] 0 e132 := by
  have h := synced_still (X := x133) (E := e131) t134.1 t134.2 rise131
  rw [t138.2.1] at h
  exact h
theorem y133 : Synced x135 e132 [0, 1] 0 e133 := by
  have h := synced_anew (X := x135) (E := e132) t136.1 up01 t136.2.1 t136.2.2.1 t136.2.2.2
  rw [t138.2.2] at h
  exact h
theorem z132 : SX3 x132 := ((SX3.zero (by omega)).sp _ _).sp _ _
theorem z133 : SX3 x133 := z132.ne
theorem z134 : SX3 x134 := z133.ne
theorem z135 : SX3 x135 := z134.de 0
theorem rm13 : x132.S.room ≤ 19 ∧ x133.S.room ≤ 19 ∧ x135.S.room ≤ 19 := of_decide_eq_true (by kernel_rfl)
theorem b130 : BSc x130 0 := BSc.zero (by omega)
theorem b131 : BSc x131 2 := b130.sp _ _
theorem b132 : BSc x132 4 := b131.sp _ _
theorem b133 : BSc x133 6 := b132.ne
theorem b134 : BSc x134 8 := b133.ne
theorem b135 : BSc x135 10 := b134.de z134.wx _
theorem k131 : EOk x132 XS0 := Or.inl ⟨0, rfl⟩
theorem k132 : EOk x133 e131 := y131.next z132 k131
theorem k133 : EOk x134 e132 := y132.next z133 k132
theorem k134 : EOk x135 e132 := k133.de 0
theorem k135 : EOk (xneS x135) e133 := y133.next z135 k134
theorem s130 : EBd XS0 0 := ⟨Nat.le_refl _, Nat.le_refl _⟩
theorem s131 : EBd e131 1 := y131.bd z132 k131 (b132.mono (by omega)) s130
theorem s132 : EBd e132 2 := y132.bd z133 k132 (b133.mono (by omega)) s131
theorem l131 : ∀ p ∈ e131.S, p.2 < 9 := y131.below (m := 9) z132 k131 (by decide +kernel) (fun p h => by cases h)
theorem l132 : ∀ p ∈ e132.S, p.2 < 9 := y132.below (m := 9) z133 k132 (by decide +kernel) l131
structure Du (EB : World → Nat → (Nat → Prop) → XS → Prop) (XB : World → Nat → (Nat → Prop) → Sc → Prop) (w0 W : World) (g gs : Nat) (F Fs : Nat → Prop) (E : XS) (X : Sc) : Prop where
  eb : EB W g F E
  xb : XB W gs Fs X
  ap : ∀ b, F b → ¬ Fs b
  be : Below w0.heap.size w0 W
  f0 : ∀ b, F b → w0.heap.size ≤ b
  f1 : ∀ b, Fs b → w0.heap.size ≤ b
section
variable {EB : World → Nat → (Nat → Prop) → XS → Prop} {XB : World → Nat → (Nat → Prop) → Sc → Prop} {w0 W W' : World} {g gs : Nat} {F Fs : Nat → Prop} {E E' : XS} {X X' : Sc}
theorem Du.keep (kE : KB EB) (kX : KB XB) (h : Du EB XB w0 W g gs F Fs E X) (hb : Below W.heap.size W W') : Du EB XB w0 W' g gs F Fs E X := ⟨kE.keep h.eb hb, kX.keep h.xb hb, h.ap, bthen h.be hb, h.f0, h.f1⟩
theorem Du.sc (kE : KB EB) (h : Du EB XB w0 W g gs F Fs E X) (hc : ChB XB W W' gs Fs X') : ∃ Fs', Du EB XB w0 W' g gs F Fs' E X' ∧ (∀ b, Fs' b → Fs b ∨ W.heap.size ≤ b) ∧ Fr W W' Fs := by
  obtain ⟨Fs', h1, h2, h3⟩ := hc
  have hi := kE.inb _ _ _ _ h.eb
  exact ⟨Fs', ⟨kE.keep_ _ _ _ _ _ h.eb (fun b c => h2.2.2.2.2 b (hi b c) (h.ap b c)), h1, fun b c d => (h3 b d).elim (h.ap b c) (fun z => by have := hi b c; omega), Fr.below h2 h.be h.f1 h.be.size, h.f0, fun b c => (h3 b c).elim (h.f1 b) (fun z => Nat.le_trans h.be.size z)⟩, h3, h2⟩
theorem Du.sy (h : Du EB XB w0 W g gs F Fs E X) (hc : SyR EB XB W W' g gs F Fs E' X') : ∃ F' Fs', Du EB XB w0 W' g gs F' Fs' E' X' ∧ (∀ b, F' b → F b ∨ W.heap.size ≤ b) ∧ (∀ b, Fs' b → Fs b ∨ W.heap.size ≤ b) ∧ Fr W W' (fun b => F b ∨ Fs b) := by
  obtain ⟨F', Fs', h1, h2, h3, h4, h5, h6⟩ := hc
  exact ⟨F', Fs', ⟨h1, h2, h6, Fr.below h3 h.be (fun b c => c.elim (h.f0 b) (h.f1 b)) h.be.size, fun b c => (h4 b c).elim (h.f0 b) (fun z => Nat.le_trans h.be.size z), fun b c => (h5 b c).elim (h.f1 b) (fun z => Nat.le_trans h.be.size z)⟩, h4, h5, h3⟩
end
section
variable {XB : World → Nat → (Nat → Prop) → Sc → Prop}
structure R11 (XB : World → Nat → (Nat → Prop) → Sc → Prop) (w : World) (g m : Nat) (v8 v9 : Value) (since : Int) (wr : World) (F : Nat → Prop) (X I0 : Sc) : Prop where
  was : OwnX 15 cNd 205 wr w.heap.size v8 ((alS I0.S).map (nodeX I0))
  had : OwnX 24 pl 52 wr w.heap.size v9 ((alS I0.S).map (getP I0.S))
  ow : ∀ b, v8.ownBlock = some b → ¬ F b
  oh : ∀ b, v9.ownBlock = some b → ¬ F b
  sb : XB wr g F X
  wx : WX I0
  told : ToldX (fun x P => inS I0.S x P) (parO I0.L) since X
  bd : BSc X m
  bel : Below w.heap.size w wr
  foot : ∀ b, F b → w.heap.size ≤ b
end
theorem zNF_info : (Tryz.prog.info? 205).map (fun i => (i.zero, i.size, i.bytes)) = some (some (.agg (cNd default).toArray), 15, 120) := by kernel_rfl
theorem bs_nodeG (n : Nd) (W : World) : (Instr.buildSlice 150 1 #[(0, .agg (cNd n).toArray)]).run Tryz.prog W = .ok (.slice (some ⟨W.heap.size, 0, none⟩) 1 1) (W.alloc (.cells (cNd n).toArray 205)) := by kernel_rfl
section
variable {XB : World → Nat → (Nat → Prop) → Sc → Prop}
structure Two (XB : World → Nat → (Nat → Prop) → Sc → Prop) (w4 W : World) (g : Nat) (F : Nat → Prop) (X : Sc) (v8 v9 : Value) (L8 : List Nd) (L9 : List PT) : Prop where
  o8 : OwnX 15 cNd 205 W w4.heap.size v8 L8
  o9 : OwnX 24 pl 52 W w4.heap.size v9 L9
  ne : ∀ b, v8.ownBlock = some b → v9.ownBlock ≠ some b
  sb : XB W g F X
  bel : Below w4.heap.size w4 W
  lo : ∀ b, F b → b < w4.heap.size
section
variable {w4 W W' : World} {g : Nat} {F : Nat → Prop} {X : Sc} {v8 v9 v' : Value} {L8 L8' : List Nd} {L9 L9' : List PT}
end
structure N11 (XB : World → Nat → (Nat → Prop) → Sc → Prop) (w : World) (g m : Nat) (nw : Int) (wr : World) (F : Nat → Prop) (X : Sc) : Prop where
  sb : XB wr g F X
  wx : WX X
  told : ToldX (fun x P => inS X.S x P) (parO X.L) nw X
  bd : BSc X m
  bel : Below w.heap.size w wr
  foot : ∀ b, F b → w.heap.size ≤ b
theorem take_map {α : Type} {f : Int → α} {L : List Int} {q : Nat} {y : Int} (h : L[q]? = some y) : (L.map f).take (q + 1) = (L.map f).take q ++ [f y] := by
  rw [List.take_add_one, List.getElem?_map, h]
  rfl

end
section
variable {XB : World → Nat → (Nat → Prop) → Sc → Prop}
theorem ch_rg {X : Sc} {since y : Int} (hy : y ∈ chL X.S since) : Rg y := live_rg13 (mem_ch.1 hy).1
theorem ch_len (S : St) (since : Int) : (chL S since).length ≤ S.ch.length := by
  unfold chL
  rw [sort_len, List.length_map]
  exact List.length_filter_le _ _
set_option maxHeartbeats 8000000 in
set_option maxRecDepth 100000 in
theorem changed_any (hX : XC XB) {w : World} {g : Nat} {F : Nat → Prop} {X : Sc} (sb : XB w g F X) (hW : WX X) (hB : BSc X 900) (since : Int) :
    Calls Tryz.prog 71 #[.pointer (some ⟨g, 0, none⟩), .int .i64 since] w fun e w' => ∃ v, e = .returned v ∧ OwnX 15 cNd 205 w' w.heap.size v ((chL X.S since).map (nodeX X)) ∧ Below w.heap.size w w' := by
  have HCh := Lib.hid (hX.changed w g F X since hW hB sb)
  have HNo : Hid (∀ W y, Below w.heap.size w W → y ∈ chL X.S since → Calls Tryz.prog 128 #[.pointer (some ⟨g, 0, none⟩), .int .i64 y] W fun e w' => ∃ Z, e = .returned (.tuple #[.agg (List.toArray Z), .bool true]) ∧ Z = cNd (nodeX X y) ∧ Below W.heap.size W w') := Lib.hid (fun W y q hy => by
    have h1 := hX.node W g F X y hW hB (hX.kb.keep sb q) (ch_rg hy)
    rw [show getB X.S y = true from by rw [← live_in hW.ws]; exact (mem_ch.1 hy).1] at h1
    exact h1)
  have hn0 : (chL X.S since).length ≤ 900 := by
    have := ch_len X.S since
    have := hB.1
    omega
  obtain ⟨zs, hzs⟩ : ∃ zs, zs = chL X.S since := ⟨_, rfl⟩
  rw [← hzs] at HCh HNo hn0 ⊢
  obtain ⟨n, hn⟩ : ∃ n, n = zs.length := ⟨_, rfl⟩
  have HLn := Lib.hid hn
  rw [← hn] at hn0
  obtain ⟨nf, hnf⟩ : ∃ nf, nf = nodeX X := ⟨_, rfl⟩
  rw [← hnf] at HNo ⊢
  clear hzs sb hB hnf hX
  go_enter Tryz.func71, Tryz.ntmps71
  go_wp2_with fail
  refine HCh.out.mono ?_
  rintro e w1 ⟨v, rfl, ⟨ia, icap, rfl, irow, -⟩, b1⟩
  have HIr := Lib.hid irow
  have HB1 := Lib.hid b1
  clear irow b1 HCh
  rw [← hn] at HIr ⊢
  clear hn
  go_wp2
  go_loopw [5, 7, 8, 9, 14] (fun v5 _ _ _ v14 wr => ∃ j : Nat, v14 = .int .i64 j ∧ j ≤ n ∧ OwnX 15 cNd 205 wr w1.heap.size v5 ((zs.map nf).take j) ∧ Below w1.heap.size w1 wr) (fun _ _ _ _ v14 _ => n - (intOf v14).toNat)
  case atStart => exact ⟨0, rfl, by omega, OwnX.nil _ _ _ _ _, Below.refl _ _⟩
  case round =>
    obtain ⟨j, rfl, hj, ho, hb⟩ := hrel
    have HO := Lib.hid ho
    have HB := Lib.hid hb
    clear ho hb
    by_cases hlt : j < n
    · have j0 : (0 : Int) ≤ (j : Int) := by omega
      have j1 : (j : Int) < (n : Int) := by omega
      obtain ⟨ib, ioff, y, rfl, hy, cy⟩ := row_at (row_keep HIr.out HB.out) hlt
      have hib := World.block_lt_of_cell? _ _ cy
      have HS := Lib.hid (take_map (f := nf) hy)
      have hmy : y ∈ zs := List.mem_of_getElem? hy
      have HN1 : Hid (∀ W, Below w.heap.size w W → Calls Tryz.prog 128 #[.pointer (some ⟨g, 0, none⟩), .int .i64 y] W fun e w' => ∃ Z, e = .returned (.tuple #[.agg (List.toArray Z), .bool true]) ∧ Z = cNd (nf y) ∧ Below W.heap.size W w') := Lib.hid (fun W q => HNo.out W y q hmy)
      have hl8 : ((zs.map nf).take j).length ≤ 2000 := by rw [List.length_take]; omega
      have HBw := Lib.hid (bthen HB1.out HB.out)
      have hws := HBw.out.size
      obtain ⟨L8, hL8⟩ : ∃ L, L = (zs.map nf).take j := ⟨_, rfl⟩
      rw [← hL8] at HO HS hl8
      obtain ⟨nd, hnd⟩ : ∃ nd, nd = nf y := ⟨_, rfl⟩
      rw [← hnd] at HN1 HS
      clear hL8 hnd hy hmy
      go_wp2_with fail
      refine (HN1.out _ HBw.out).mono ?_
      rintro e w5 ⟨Z, rfl, hZ, b5⟩
      have HZ := Lib.hid hZ
      have HNX : Hid (NXs Z 205) := Lib.hid (by rw [hZ]; exact nx_flow nd)
      have HBs8 : Hid (∀ W, (Instr.buildSlice 150 1 #[(0, .agg Z.toArray)]).run Tryz.prog W = .ok (.slice (some ⟨W.heap.size, 0, none⟩) 1 1) (W.alloc (.cells Z.toArray 205))) := Lib.hid (by rw [hZ]; exact bs_nodeG nd)
      have hbs : Below w5.heap.size w5 ((w5.alloc (.cells (cNd n0d).toArray 205)).setCells w5.heap.size 0 Z) := below_setCells Z (alloc_below _ _) (Nat.le_refl _)
      have HT14 : Hid ((w5.alloc (.cells (cNd n0d).toArray 205)).there w5.heap.size 0 Z.toArray.size) := Lib.hid (blk_there (Blk.new w5 _ _) (by rw [List.size_toArray, HNX.out.len]; exact Nat.le_refl 15))
      have HE14 : Hid (Blk ((w5.alloc (.cells (cNd n0d).toArray 205)).setCells w5.heap.size 0 Z) w5.heap.size 205 Z.toArray ∧ OwnX 15 cNd 205 ((w5.alloc (.cells (cNd n0d).toArray 205)).setCells w5.heap.size 0 Z) w1.heap.size u5 L8 ∧ Below w1.heap.size w1 ((w5.alloc (.cells (cNd n0d).toArray 205)).setCells w5.heap.size 0 Z)) := Lib.hid ⟨blk_over (Blk.new w5 _ _) (by rw [HNX.out.len]; rfl), HO.out.keep (bthen b5 hbs), bthen HB.out (bthen b5 hbs)⟩
      have HO8 : Hid (∀ c, u5.ownBlock = some c → c < w5.heap.size) := Lib.hid (fun c e => Nat.lt_of_lt_of_le (HO.out.lt c e).2 b5.size)
      clear hZ b5 hbs cy hib HN1 HO HB HBw
      go_upto_region 6 with (refine wpList_store_mid rfl 205 (.tmp 8) (.tmp 22) rfl w5.heap.size 0 Z.toArray rfl rfl HT14.out HNX.out.sizea HNX.out.onea ?_)
      refine fin (fun W => Blk W w5.heap.size 205 Z.toArray ∧ OwnX 15 cNd 205 W w1.heap.size u5 L8 ∧ Below w1.heap.size w1 W) HE14.out ?_
      clear HE14 HT14
      obtain ⟨g14, hg14⟩ : ∃ g, g = w5.heap.size := ⟨_, rfl⟩
      rw [← hg14] at HO8 ⊢
      rintro W6 ⟨k14, ho, hb⟩
      have K14 := Lib.hid k14
      have HO := Lib.hid ho
      have HB := Lib.hid hb
      have hk14 := k14.lt
      have h4s : w1.heap.size ≤ W6.heap.size := hb.size
      clear k14 ho hb hg14 HO8
      go_wp2_with (first
        | refine wpList_load_mid rfl 205 (.tmp 8) rfl g14 0 rfl Z _ (blk_whole K14.out) Tryz.underlying205 rfl HNX.out.size ?_
        | refine wpList_bs8 rfl 150 205 (.tmp 26) rfl Z rfl HBs8.out ?_
        | (at_builtin; refine wpList_pushX rfl (.tmp 25) (.tmp 27) 150 120 (.agg (cNd default).toArray) rfl Tryz.underlying150 zNF_info rfl (by decide) (by decide) cNd_len nd (cNd_one nd) rfl (HO.out.keep (alloc_below _ _)) W6.heap.size 1 rfl (by rw [← HZ.out]; exact blk_whole (Blk.new W6 _ _)) (by omega) (by simp; omega) ?_))
      intro v8' W7 k1 k2 k3
      have hal : Below W6.heap.size W6 (W6.alloc (.cells Z.toArray 205)) := alloc_below _ _
      have K : Hid (OwnX 15 cNd 205 W7 w1.heap.size v8' ((zs.map nf).take (j + 1)) ∧ Below w1.heap.size w1 W7) := Lib.hid ⟨by rw [HS.out]; exact k1, grown_below2 (bthen HB.out hal) k2 (fun b e => (HO.out.lt b e).1)⟩
      clear k1 k2 k3 hal HO HB K14 HS HZ HNX HBs8
      go_wp2
      go_roundw
      case rel => exact ⟨j + 1, by go_num, by omega, K.out.1, K.out.2⟩
      case measure => simp [intOf] <;> omega
    · obtain rfl : j = n := by omega
      have j2 : ¬ (j : Int) < (j : Int) := by omega
      have HF : Hid (OwnX 15 cNd 205 wr w.heap.size u5 (zs.map nf) ∧ Below w.heap.size w wr) := Lib.hid ⟨by
        have q := HO.out.low HB1.out.size
        rw [List.take_of_length_le (by rw [List.length_map]; have := HLn.out; omega)] at q
        exact q, bthen HB1.out HB.out⟩
      go_wp2
      go_ret
      exact ⟨u5, rfl, HF.out.1, HF.out.2⟩
end
structure AXs (X : List Value) (T : TypeId) (k : Nat) : Prop where
  len : X.length = k
  size : (Tryz.prog.info? T).map (·.size) = some X.length
  sizea : (Tryz.prog.info? T).map (·.size) = some X.toArray.size
  onea : X.toArray.all (·.oneCell') = true
theorem ax_parts (P : PT) : AXs (pl P) 52 24 := ⟨pl_len _, pl_size _, pl_size' _, pl_one _⟩
theorem ax_state (M : Nat → Int) (s : Bool) : AXs (lS M s) 228 13 := ⟨rfl, by kernel_rfl, by kernel_rfl, lS_one M s⟩
theorem ax_rec (r : Rc) : AXs (cRc r) 92 12 := ⟨rfl, rc_size r, by rw [List.size_toArray]; exact rc_size r, rc_all r⟩
theorem bs_recG (r : Rc) (W : World) : (Instr.buildSlice 85 1 #[(0, .agg (cRc r).toArray)]).run Tryz.prog W = .ok (.slice (some ⟨W.heap.size, 0, none⟩) 1 1) (W.alloc (.cells (cRc r).toArray 92)) := bs_rc1 r W
theorem first_take {eo : Int → Int} {zs : List Int} {j : Nat} {x : Int} (hx : zs[j]? = some x) (h : ∀ y ∈ zs.take j, eo y = 0) (he : eo x ≠ 0) : firstE eo zs = eo x := by
  have hj := (List.getElem?_eq_some_iff.1 hx).1
  have hd : zs.drop j = x :: zs.drop (j + 1) := by
    rw [List.drop_eq_getElem_cons hj]
    rw [List.getElem?_eq_getElem hj] at hx
    injection hx with hx
    rw [hx]
  have h1 : ∀ (l m : List Int), (∀ y ∈ l, eo y = 0) → firstE eo (l ++ x :: m) = eo x := by
    intro l
    induction l with
    | nil => intro m _; rw [List.nil_append, first_cons, if_neg he]
    | cons a l ih => intro m hl; rw [List.cons_append, first_cons, if_pos (hl a List.mem_cons_self)]; exact ih m (fun y hy => hl y (List.mem_cons_of_mem _ hy))
  rw [← List.take_append_drop j zs, hd]
  exact h1 _ _ h
section
variable {XB : World → Nat → (Nat → Prop) → Sc → Prop} {FB : World → Nat → (Nat → Prop) → FD → Prop}
set_option maxHeartbeats 40000000 in
set_option maxRecDepth 100000 in
theorem drawn_any (hX : XC XB) (hC : FWE FB) {w : World} {g gf gs n cap : Nat} {a : Option Addr} {Fs Ff : Nat → Prop} {X : Sc} {D : FD} {zs : List Int} {o : Int → Option Rc} {eo : Int → Int} (sb : XB w gs Fs X) (fb : FB w gf Ff D) (c0 : w.cell? ⟨g, 0, none⟩ = some (.pointer (some ⟨gf, 0, none⟩))) (row : Row w a n zs) (hW : WX X) (hB : BSc X 900) (hD : DOk D) (hl : D.L.length ≤ 300) (hn : n ≤ 1900) (hz : Rgs zs)
    (hof : ∀ x, oeR (stO D x).wo (getP X.S x) (stO D x).sh = eo x ∧ (if obR (stO D x).wo (getP X.S x) (stO D x).sh = true then some (recT x (getP X.S x) (stO D x).wo) else none) = o x) :
    Calls Tryz.prog 75 #[.pointer (some ⟨g, 0, none⟩), .pointer (some ⟨gs, 0, none⟩), .slice a n cap] w fun e w' => ∃ v er, e = .returned (.tuple #[v, .int .i64 er]) ∧ er = firstE eo zs ∧ (er = 0 → OwnX 12 cRc 92 w' w.heap.size v (zs.filterMap o)) ∧ Below w.heap.size w w' := by
  have hg := World.block_lt_of_cell? _ _ c0
  have HKp : Hid (∀ W, Below w.heap.size w W → W.cell? ⟨g, 0, none⟩ = some (.pointer (some ⟨gf, 0, none⟩)) ∧ g < W.heap.size ∧ Row W a n zs) := Lib.hid (fun W q => ⟨cell_keep c0 q, Nat.lt_of_lt_of_le hg q.size, row_keep row q⟩)
  have HGe : Hid (∀ W x, Below w.heap.size w W → Calls Tryz.prog 136 #[.pointer (some ⟨gs, 0, none⟩), .int .i64 x] W fun e w' => ∃ Z b, e = .returned (.tuple #[.agg (List.toArray Z), .bool b]) ∧ Z = pl (getP X.S x) ∧ Below W.heap.size W w') := Lib.hid (fun W x q => (hX.get W gs Fs X x hW hB (hX.kb.keep sb q)).mono (fun _ _ ⟨Z, h1, h2, h3⟩ => ⟨Z, _, h1, h2, h3⟩))
  have HSt : Hid (∀ W x, Below w.heap.size w W → Rg x → Calls Tryz.prog 137 #[.pointer (some ⟨gf, 0, none⟩), .int .i64 x] W fun e w' => ∃ Z b, e = .returned (.tuple #[.agg (List.toArray Z), .bool b]) ∧ Z = lS (stO D x).wo (stO D x).sh ∧ Below W.heap.size W w') := Lib.hid (fun W x q hx => (hC.state W gf Ff D x hD hl (hC.keep fb q) hx).mono (fun _ _ ⟨Z, h1, h2, h3⟩ => ⟨Z, _, h1, h2, h3⟩))
  have HOf : Hid (∀ W x, Calls Tryz.prog 138 #[.int .i64 x, .agg (pl (getP X.S x)).toArray, .agg (lS (stO D x).wo (stO D x).sh).toArray] W fun e w' => ∃ r b, e = .returned (.tuple #[.agg (cRc r).toArray, .bool b, .int .i64 (eo x)]) ∧ (eo x = 0 → o x = if b = true then some r else none) ∧ Below W.heap.size W w') := Lib.hid (fun W x => (rcof_any x (getP X.S x) (stO D x).wo (stO D x).sh W).mono (fun _ _ ⟨h1, h2⟩ => by
    obtain ⟨q1, q2⟩ := hof x
    refine ⟨_, _, by rw [h1, q1], fun _ => ?_, h2⟩
    rw [← q2]
    unfold ovR
    split <;> simp_all))
  obtain ⟨pf, hpf⟩ : ∃ pf : Int → List Value, pf = fun x => pl (getP X.S x) := ⟨_, rfl⟩
  obtain ⟨sf, hsf⟩ : ∃ sf : Int → List Value, sf = fun x => lS (stO D x).wo (stO D x).sh := ⟨_, rfl⟩
  have HPf : Hid (∀ x, AXs (pf x) 52 24) := Lib.hid (fun x => by rw [hpf]; exact ax_parts _)
  have HSf : Hid (∀ x, AXs (sf x) 228 13) := Lib.hid (fun x => by rw [hsf]; exact ax_state _ _)
  have ep : ∀ x, pl (getP X.S x) = pf x := fun x => by rw [hpf]
  have es : ∀ x, lS (stO D x).wo (stO D x).sh = sf x := fun x => by rw [hsf]
  simp only [ep, es] at HGe HSt HOf
  have HRg := Lib.hid hz
  have HLn := Lib.hid row.1
  have HTk : Hid (zs.take n = zs) := Lib.hid (List.take_of_length_le (by rw [row.1]; exact Nat.le_refl _))
  clear hX hC sb fb c0 row hW hB hD hl hz hof ep es hpf hsf hg
  go_enter Tryz.func75, Tryz.ntmps75
  go_wp2
  go_loopw [8, 10, 11, 12, 13, 14, 15, 16, 17, 20] (fun v8 _ _ _ _ _ _ _ _ v20 wr => ∃ j : Nat, v20 = .int .i64 j ∧ j ≤ n ∧ (∀ y ∈ zs.take j, eo y = 0) ∧ OwnX 12 cRc 92 wr w.heap.size v8 ((zs.take j).filterMap o) ∧ Below w.heap.size w wr) (fun _ _ _ _ _ _ _ _ _ v20 _ => n - (intOf v20).toNat)
  case atStart => exact ⟨0, rfl, by omega, fun y hy => (by cases hy), OwnX.nil _ _ _ _ _, Below.refl _ _⟩
  case round =>
    obtain ⟨j, rfl, hj, hez, ho, hb⟩ := hrel
    have HEz := Lib.hid hez
    have HO := Lib.hid ho
    have HB := Lib.hid hb
    clear hez ho hb
    by_cases hlt : j < n
    · have j0 : (0 : Int) ≤ (j : Int) := by omega
      have j1 : (j : Int) < (n : Int) := by omega
      obtain ⟨ib, ioff, y, rfl, hy, cy⟩ := row_at (HKp.out wr HB.out).2.2 hlt
      have hib := World.block_lt_of_cell? _ _ cy
      have HY := Lib.hid hy
      have hry : Rg y := HRg.out y (List.mem_of_getElem? hy)
      have HRy := Lib.hid hry
      clear hy hry
      go_wp2_with fail
      refine (HGe.out _ y HB.out).mono ?_
      rintro e w5 ⟨Z, zb, rfl, hZ, b5⟩
      have HZ := Lib.hid hZ
      have HZX : Hid (AXs Z 52 24) := Lib.hid (by rw [hZ]; exact HPf.out y)
      have hbs : Below w5.heap.size w5 ((w5.alloc (.cells Z24.toArray 52)).setCells w5.heap.size 0 Z) := below_setCells Z (alloc_below _ _) (Nat.le_refl _)
      have HT1 : Hid ((w5.alloc (.cells Z24.toArray 52)).there w5.heap.size 0 Z.toArray.size) := Lib.hid (blk_there (Blk.new w5 _ _) (by rw [List.size_toArray, HZX.out.len]; exact Nat.le_refl 24))
      have HE1 : Hid (Blk ((w5.alloc (.cells Z24.toArray 52)).setCells w5.heap.size 0 Z) w5.heap.size 52 Z.toArray ∧ Below wr.heap.size wr ((w5.alloc (.cells Z24.toArray 52)).setCells w5.heap.size 0 Z)) := Lib.hid ⟨blk_over (Blk.new w5 _ _) (by rw [HZX.out.len]; rfl), bthen b5 hbs⟩
      clear hZ b5 hbs cy hib
      go_upto_region 6 with (refine wpList_store_mid rfl 52 (.tmp 11) (.tmp 28) rfl w5.heap.size 0 Z.toArray rfl rfl HT1.out HZX.out.sizea HZX.out.onea ?_)
      refine fin (fun W => Blk W w5.heap.size 52 Z.toArray ∧ Below wr.heap.size wr W) HE1.out ?_
      clear HE1 HT1
      obtain ⟨g11, hg11⟩ : ∃ g, g = w5.heap.size := ⟨_, rfl⟩
      rw [← hg11]
      rintro W1 ⟨k11, hb1⟩
      have K11 := Lib.hid k11
      have HB1 := Lib.hid hb1
      obtain ⟨c0, hg, -⟩ := HKp.out W1 (bthen HB.out hb1)
      clear k11 hb1 hg11
      go_wp2_with fail
      refine (HSt.out _ y (bthen HB.out HB1.out) HRy.out).mono ?_
      rintro e w6 ⟨Y, yb, rfl, hY, b6⟩
      have HYe := Lib.hid hY
      have HYX : Hid (AXs Y 228 13) := Lib.hid (by rw [hY]; exact HSf.out y)
      have hbs : Below w6.heap.size w6 ((w6.alloc (.cells (lS (fun _ => 0) false).toArray 228)).setCells w6.heap.size 0 Y) := below_setCells Y (alloc_below _ _) (Nat.le_refl _)
      have HT2 : Hid ((w6.alloc (.cells (lS (fun _ => 0) false).toArray 228)).there w6.heap.size 0 Y.toArray.size) := Lib.hid (blk_there (Blk.new w6 _ _) (by rw [List.size_toArray, HYX.out.len]; exact Nat.le_refl 13))
      have HE2 : Hid (Blk ((w6.alloc (.cells (lS (fun _ => 0) false).toArray 228)).setCells w6.heap.size 0 Y) w6.heap.size 228 Y.toArray ∧ Blk ((w6.alloc (.cells (lS (fun _ => 0) false).toArray 228)).setCells w6.heap.size 0 Y) g11 52 Z.toArray ∧ Below wr.heap.size wr ((w6.alloc (.cells (lS (fun _ => 0) false).toArray 228)).setCells w6.heap.size 0 Y)) := Lib.hid ⟨blk_over (Blk.new w6 _ _) (by rw [HYX.out.len]; rfl), (K11.out.keep (bthen b6 hbs)), bthen HB1.out (bthen b6 hbs)⟩
      clear hY b6 hbs c0 hg K11 HB1
      go_upto_region 7 with (refine wpList_store_mid rfl 228 (.tmp 13) (.tmp 38) rfl w6.heap.size 0 Y.toArray rfl rfl HT2.out HYX.out.sizea HYX.out.onea ?_)
      refine fin (fun W => Blk W w6.heap.size 228 Y.toArray ∧ Blk W g11 52 Z.toArray ∧ Below wr.heap.size wr W) HE2.out ?_
      clear HE2 HT2
      obtain ⟨g13, hg13⟩ : ∃ g, g = w6.heap.size := ⟨_, rfl⟩
      rw [← hg13]
      rintro W2 ⟨k13, k11, hb2⟩
      have K13 := Lib.hid k13
      have K11 := Lib.hid k11
      have HB2 := Lib.hid hb2
      clear k13 k11 hb2 hg13
      have HOy : Hid (∀ W, Calls Tryz.prog 138 #[.int .i64 y, .agg Z.toArray, .agg Y.toArray] W fun e w' => ∃ r b, e = .returned (.tuple #[.agg (cRc r).toArray, .bool b, .int .i64 (eo y)]) ∧ (eo y = 0 → o y = if b = true then some r else none) ∧ Below W.heap.size W w') := Lib.hid (fun W => by rw [HZ.out, HYe.out]; exact HOf.out W y)
      go_wp2_with (first
        | refine wpList_load_mid rfl 52 (.tmp 11) rfl g11 0 rfl Z _ (blk_whole K11.out) Tryz.underlying52 rfl HZX.out.size ?_
        | refine wpList_load_mid rfl 228 (.tmp 13) rfl g13 0 rfl Y _ (blk_whole K13.out) Tryz.underlying228 rfl HYX.out.size ?_)
      refine (HOy.out _).mono ?_
      rintro e w7 ⟨r, rb, rfl, hoy, b7⟩
      have HOo := Lib.hid hoy
      have HRX := Lib.hid (ax_rec r)
      have HBsr := Lib.hid (bs_recG r)
      obtain ⟨V, hV⟩ : ∃ V, V = cRc r := ⟨_, rfl⟩
      have HV := Lib.hid hV
      rw [← hV] at HRX HBsr ⊢
      have hbs : Below w7.heap.size w7 ((w7.alloc (.cells (cRc zRc).toArray 92)).setCells w7.heap.size 0 V) := below_setCells V (alloc_below _ _) (Nat.le_refl _)
      have HT3 : Hid ((w7.alloc (.cells (cRc zRc).toArray 92)).there w7.heap.size 0 V.toArray.size) := Lib.hid (blk_there (Blk.new w7 _ _) (by rw [List.size_toArray, HRX.out.len]; exact Nat.le_refl 12))
      have HE3 : Hid (Blk ((w7.alloc (.cells (cRc zRc).toArray 92)).setCells w7.heap.size 0 V) w7.heap.size 92 V.toArray ∧ Below wr.heap.size wr ((w7.alloc (.cells (cRc zRc).toArray 92)).setCells w7.heap.size 0 V)) := Lib.hid ⟨blk_over (Blk.new w7 _ _) (by rw [HRX.out.len]; rfl), bthen HB2.out (bthen b7 hbs)⟩
      clear hoy hV b7 hbs K11 K13 HB2 HOy HZ HYe HZX HYX
      go_upto_region 8 with (refine wpList_store_mid rfl 92 (.tmp 15) (.tmp 45) rfl w7.heap.size 0 V.toArray rfl rfl HT3.out HRX.out.sizea HRX.out.onea ?_)
      refine fin (fun W => Blk W w7.heap.size 92 V.toArray ∧ Below wr.heap.size wr W) HE3.out ?_
      clear HE3 HT3
      obtain ⟨g15, hg15⟩ : ∃ g, g = w7.heap.size := ⟨_, rfl⟩
      rw [← hg15]
      rintro W3 ⟨k15, hb3⟩
      have K15 := Lib.hid k15
      have HB3 := Lib.hid hb3
      have hk15 := k15.lt
      have hw3 : w.heap.size ≤ W3.heap.size := Nat.le_trans HB.out.size hb3.size
      clear k15 hb3 hg15
      obtain ⟨ey, hey⟩ : ∃ ey, ey = eo y := ⟨_, rfl⟩
      have HEy := Lib.hid hey
      rw [← hey] at HOo ⊢
      clear hey
      by_cases he : ey = 0
      · subst he
        have HOz := Lib.hid (HOo.out rfl)
        have HEn : Hid (∀ z ∈ zs.take (j + 1), eo z = 0) := Lib.hid (fun z hz => by
          rw [List.take_add_one, HY.out] at hz
          rcases List.mem_append.1 hz with m | m
          · exact HEz.out z m
          · have e : z = y := by simpa using m
            rw [e]; exact HEy.out.symm)
        have HSp := Lib.hid (fm_take o HY.out)
        rw [HOz.out] at HSp
        have hl8 : ((zs.take j).filterMap o).length ≤ 2000 := by
          have h1 := List.length_filterMap_le o (zs.take j)
          rw [List.length_take] at h1
          omega
        obtain ⟨L8, hL8⟩ : ∃ L, L = (zs.take j).filterMap o := ⟨_, rfl⟩
        rw [← hL8] at HO HSp hl8
        clear hL8 HEz HEy HOo HOz
        cases rb with
        | true =>
          rw [if_pos rfl] at HSp
          go_wp2_with (first
            | refine wpList_load_mid rfl 92 (.tmp 15) rfl g15 0 rfl V _ (blk_whole K15.out) Tryz.underlying92 rfl HRX.out.size ?_
            | refine wpList_bsR1 rfl 85 92 (.tmp 53) rfl V rfl HBsr.out ?_
            | (at_builtin; refine wpList_pushX rfl (.tmp 52) (.tmp 54) 85 96 (.agg (cRc zRc).toArray) rfl Tryz.underlying85 zRc_info rfl (by decide) (by decide) cRc_len r (cRc_one r) rfl ((HO.out.keep HB3.out).keep (alloc_below _ _)) W3.heap.size 1 rfl (by rw [← HV.out]; exact blk_whole (Blk.new W3 _ _)) hl8 (by simp; omega) ?_))
          intro v' W4 k1 k2 k3
          have K : Hid (OwnX 12 cRc 92 W4 w.heap.size v' ((zs.take (j + 1)).filterMap o) ∧ Below w.heap.size w W4) := Lib.hid ⟨by rw [HSp.out]; exact k1, grown_below2 (bthen (bthen HB.out HB3.out) (alloc_below _ _)) k2 (fun b e => (HO.out.lt b e).1)⟩
          clear k1 k2 k3 HO HB HB3 K15 HSp HRX HBsr HV
          go_wp2
          go_roundw
          case rel => exact ⟨j + 1, by go_num, by omega, HEn.out, K.out.1, K.out.2⟩
          case measure => simp [intOf] <;> omega
        | false =>
          rw [if_neg (by decide)] at HSp
          have K : Hid (OwnX 12 cRc 92 W3 w.heap.size u8 ((zs.take (j + 1)).filterMap o) ∧ Below w.heap.size w W3) := Lib.hid ⟨by rw [HSp.out]; exact (List.append_nil L8).symm ▸ HO.out.keep HB3.out, bthen HB.out HB3.out⟩
          clear HO HB HB3 K15 HSp HRX HBsr HV
          go_wp2
          go_roundw
          case rel => exact ⟨j + 1, by go_num, by omega, HEn.out, K.out.1, K.out.2⟩
          case measure => simp [intOf] <;> omega
      · have HFi : Hid (ey = firstE eo zs ∧ Below w.heap.size w W3) := Lib.hid ⟨by
          rw [first_take HY.out HEz.out (by rw [← HEy.out]; exact he)]
          exact HEy.out, bthen HB.out HB3.out⟩
        have HNe := Lib.hid he
        go_wp2
        go_ret2
        exact ⟨_, ey, rfl, HFi.out.1, fun c => absurd c HNe.out, HFi.out.2⟩
    · obtain rfl : j = n := by omega
      have j2 : ¬ (j : Int) < (j : Int) := by omega
      have HF : Hid (0 = firstE eo zs ∧ OwnX 12 cRc 92 wr w.heap.size u8 (zs.filterMap o) ∧ Below w.heap.size w wr) := Lib.hid ⟨by
        have h1 := HEz.out
        rw [HTk.out] at h1
        exact (first_zero.2 h1).symm, by
        have q := HO.out
        rw [HTk.out] at q
        exact q, HB.out⟩
      go_wp2
      go_ret2
      exact ⟨u8, 0, rfl, HF.out.1, fun _ => HF.out.2.1, HF.out.2.2⟩
end
theorem pl13q : pl q13 = [.int .i64 7, .int .i64 65536, .int .i64 0, .int .i64 0, .int .i64 5, .int .i64 0, .int .i64 65536, .int .i64 0, .int .i64 0, .int .i64 0, .int .i64 0, .int .i64 65536, .int .i64 0, .int .i64 2, .int .i64 0, .int .i64 0, .int .i64 0, .int .i64 0, .int .i64 0, .int .i64 0, .int .i64 0, .int .i64 0, .bool false, .int .i64 0] := by rfl
section
variable {EB : World → Nat → (Nat → Prop) → XS → Prop} {XB : World → Nat → (Nat → Prop) → Sc → Prop}
theorem du_sync (hE : EC EB XB) {w0 W : World} {g gs : Nat} {F Fs : Nat → Prop} {E : XS} {X : Sc} (h : Du EB XB w0 W g gs F Fs E X) (hS : SX3 X) (hk : EOk X E) (hB : BSc X 250) (hb : EBd E 100) (hl : ∀ p ∈ E.S, p.2 < 256) (hrm : X.S.room ≤ 19) :
    Calls Tryz.prog 13 #[.pointer (some ⟨g, 0, none⟩), .pointer (some ⟨gs, 0, none⟩)] W fun e w' => ∃ a n cap zs er E' F' Fs', e = .returned (.tuple #[.slice a n cap, .int .i64 er]) ∧ n = zs.length ∧ Row w' a n zs ∧ Synced X E zs er E' ∧ Du EB XB w0 w' g gs F' Fs' E' (xneS X) ∧ (∀ b, F' b → F b ∨ W.heap.size ≤ b) ∧ (∀ b, Fs' b → Fs b ∨ W.heap.size ≤ b) ∧ Fr W w' (fun b => F b ∨ Fs b) ∧ (n = 0 ∨ ∀ ad, a = some ad → W.heap.size ≤ ad.block) := by
  refine (hE.sync W g F E gs Fs X h.eb h.xb h.ap hS hk hB hb hl hrm).mono ?_
  rintro e w' ⟨v, zs, er, E', rfl, ⟨a, cap, rfl, row, haw⟩, hs, hy⟩
  obtain ⟨F', Fs', k1, k2, k3, k4⟩ := h.sy hy
  exact ⟨a, zs.length, cap, zs, er, E', F', Fs', rfl, rfl, row, hs, k1, k2, k3, k4, haw⟩
theorem du_known (hE : EC EB XB) {w0 W : World} {g gs : Nat} {F Fs : Nat → Prop} {E E1 : XS} {X : Sc} {zs : List Int} {er : Int} (h : Du EB XB w0 W g gs F Fs E X) (hS : SX3 X) (hk : EOk X E) (hB : BSc X 250) (hb : EBd E 100) (hl : ∀ p ∈ E.S, p.2 < 256) (hrm : X.S.room ≤ 19) (hy : Synced X E zs er E1) :
    Calls Tryz.prog 13 #[.pointer (some ⟨g, 0, none⟩), .pointer (some ⟨gs, 0, none⟩)] W fun e w' => ∃ a cap F' Fs', e = .returned (.tuple #[.slice a zs.length cap, .int .i64 er]) ∧ Du EB XB w0 w' g gs F' Fs' E1 (xneS X) := by
  refine (du_sync hE h hS hk hB hb hl hrm).mono ?_
  rintro e w' ⟨a, n, cap, zs', er', E', F', Fs', rfl, rfl, row, hs, k1, -, -, -, -⟩
  obtain ⟨rfl, rfl, rfl⟩ := hs.one hy
  exact ⟨a, cap, F', Fs', rfl, k1⟩
theorem r133_one : ∃ r, r133 = [r] ∧ r.id = 1 ∧ r.x3 = 5 := by
  have h := t137.1
  cases c : r133 with
  | nil => rw [c] at h; cases h
  | cons r l =>
    rw [c, List.map_cons] at h
    injection h with h1 h2
    injection h1 with h3 h4
    exact ⟨r, by rw [List.map_eq_nil_iff.1 h2], h3, h4⟩
set_option maxHeartbeats 4000000 in
set_option maxRecDepth 100000 in
theorem alive13_any (hX : XC XB) (hE : EC EB XB) (w : World) : Calls Tryz.prog 8 #[] w fun e w' => e = .returned (.bool true) ∧ Below w.heap.size w w' := by
  have HNew := Lib.hid (hX.new w 9 (by omega))
  have HMv := Lib.hid (rmove_xyz 5 0 0)
  have HS1 : Hid (∀ u gs Fs, XB u gs Fs x130 → Calls Tryz.prog 28 #[.pointer (some ⟨gs, 0, none⟩), .agg (pl q13).toArray, .int .i64 (-1)] u fun e w' => e = .returned (.tuple #[.int .i64 0, .int .i64 0]) ∧ ChB XB u w' gs Fs x131) := Lib.hid (fun u gs Fs h => by
    have q := hX.spawn u gs Fs x130 q13 (-1) (WX.zero (by omega)) (b130.mono (by omega)) h (by decide)
    rw [t131.1, t131.2] at q
    exact q)
  have HS2 : Hid (∀ u gs Fs, XB u gs Fs x131 → Calls Tryz.prog 28 #[.pointer (some ⟨gs, 0, none⟩), .agg (pl q13).toArray, .int .i64 0] u fun e w' => e = .returned (.tuple #[.int .i64 1, .int .i64 0]) ∧ ChB XB u w' gs Fs x132) := Lib.hid (fun u gs Fs h => by
    have q := hX.spawn u gs Fs x131 q13 0 ((WX.zero (r := 9) (by omega)).sp _ _) (b131.mono (by omega)) h (by decide)
    rw [t132.1, t132.2] at q
    exact q)
  have HXn := Lib.hid hE.new
  have HY1 : Hid (∀ W g gs F Fs, Du EB XB w W g gs F Fs XS0 x132 → Calls Tryz.prog 13 #[.pointer (some ⟨g, 0, none⟩), .pointer (some ⟨gs, 0, none⟩)] W fun e w' => ∃ a cap F' Fs', e = .returned (.tuple #[.slice a 2 cap, .int .i64 0]) ∧ Du EB XB w w' g gs F' Fs' e131 x133) := Lib.hid (fun W g gs F Fs h => du_known hE h z132 k131 (b132.mono (by omega)) (s130.mono (by omega)) (fun p q => by cases q) rm13.1 y131)
  have HY2 : Hid (∀ W g gs F Fs, Du EB XB w W g gs F Fs e131 x133 → Calls Tryz.prog 13 #[.pointer (some ⟨g, 0, none⟩), .pointer (some ⟨gs, 0, none⟩)] W fun e w' => ∃ a cap F' Fs', e = .returned (.tuple #[.slice a 0 cap, .int .i64 0]) ∧ Du EB XB w w' g gs F' Fs' e132 x134) := Lib.hid (fun W g gs F Fs h => du_known hE h z133 k132 (b133.mono (by omega)) (s131.mono (by omega)) (fun p q => by have := l131 p q; omega) rm13.2.1 y132)
  have HDe : Hid (∀ W g gs F Fs, Du EB XB w W g gs F Fs e132 x134 → Calls Tryz.prog 29 #[.pointer (some ⟨gs, 0, none⟩), .int .i64 0] W fun e w' => e = .returned (.int .i64 0) ∧ ∃ Fs', Du EB XB w w' g gs F Fs' e132 x135) := Lib.hid (fun W g gs F Fs h => by
    have q := hX.despawn W gs Fs x134 0 z134.wx (b134.mono (by omega)) h.xb (by decide)
    rw [t135] at q
    refine q.mono ?_
    rintro e w' ⟨rfl, k⟩
    obtain ⟨Fs', k1, -, -⟩ := h.sc hE.kb k
    exact ⟨rfl, Fs', k1⟩)
  have HY3 : Hid (∀ W g gs F Fs, Du EB XB w W g gs F Fs e132 x135 → Calls Tryz.prog 13 #[.pointer (some ⟨g, 0, none⟩), .pointer (some ⟨gs, 0, none⟩)] W fun e w' => ∃ a cap F', e = .returned (.tuple #[.slice a 2 cap, .int .i64 0]) ∧ EB w' g F' e133 ∧ Below w.heap.size w w') := Lib.hid (fun W g gs F Fs h => (du_known hE h z135 k134 (b135.mono (by omega)) (s132.mono (by omega)) (fun p q => by have := l132 p q; omega) rm13.2.2 y133).mono (fun e w' ⟨a, cap, F', Fs', q1, q2⟩ => ⟨a, cap, F', q1.trans rfl, q2.eb, q2.be⟩))
  have HRc : Hid (∀ W g F, EB W g F e133 → Calls Tryz.prog 20 #[.pointer (some ⟨g, 0, none⟩)] W fun e w' => ∃ b off cap, e = .returned (.slice (some ⟨b, off, none⟩) 1 cap) ∧ w'.cell? ⟨b, off, none⟩ = some (.int .i64 1) ∧ w'.cell? ⟨b, off + 9, none⟩ = some (.int .i64 5) ∧ b < w'.heap.size ∧ EB w' g F e133 ∧ Below W.heap.size W w') := Lib.hid (fun W g F h => by
    obtain ⟨r, hr, h1, h5⟩ := r133_one
    have hrr : e133.R = [r] := hr
    refine (hE.records W g F e133 h (by rw [hrr]; show 1 ≤ 2000; omega)).mono ?_
    rintro e w' ⟨v, rfl, ho, hb⟩
    obtain ⟨a, cap, rfl, _, _, row⟩ := ho.row cRc_len
    rw [hrr] at row ⊢
    obtain ⟨b, off, x, rfl, hbl, hx, hrg⟩ := row.at_ (i := 0) (by show 0 < 1; omega)
    have hx' : r = x := by simpa using hx
    subst hx'
    have c0 := hrg 0 _ rfl
    have c9 := hrg 9 _ rfl
    rw [Nat.zero_mul, Nat.add_zero] at c0 c9
    exact ⟨b, off, cap, rfl, by rw [← h1]; exact c0, by rw [← h5]; exact c9, hbl, hE.kb.keep h hb, hb⟩)
  have hsi : SI e133.S := (k135).si
  have HL1 : Hid (∀ W g F, EB W g F e133 → Calls Tryz.prog 22 #[.pointer (some ⟨g, 0, none⟩), .int .i64 1] W fun e w' => e = .returned (.int .i64 1) ∧ EB w' g F e133 ∧ Below W.heap.size W w') := Lib.hid (fun W g F h => by
    have q := hE.slot W g F e133 1 h hsi (by decide)
    rw [t137.2.1] at q
    exact q.mono (fun e w' ⟨q1, q2⟩ => ⟨q1, hE.kb.keep h q2, q2⟩))
  have HL0 : Hid (∀ W g F, EB W g F e133 → Calls Tryz.prog 22 #[.pointer (some ⟨g, 0, none⟩), .int .i64 0] W fun e w' => e = .returned (.int .i64 (-1)) ∧ EB w' g F e133 ∧ Below W.heap.size W w') := Lib.hid (fun W g F h => by
    have q := hE.slot W g F e133 0 h hsi (by decide)
    rw [t137.2.2] at q
    exact q.mono (fun e w' ⟨q1, q2⟩ => ⟨q1, hE.kb.keep h q2, q2⟩))
  have HSt : Hid (∀ W g F, EB W g F e133 → Calls Tryz.prog 21 #[.pointer (some ⟨g, 0, none⟩)] W fun e w' => e = .returned (.int .i64 4) ∧ Below W.heap.size W w') := Lib.hid (fun W g F h => hE.steps W g F e133 h)
  have HKx := Lib.hid hX.kb
  have HKe := Lib.hid hE.kb
  have HQx := Lib.hid (ax_parts q13)
  obtain ⟨QQ, hQQ⟩ : ∃ QQ, QQ = pl q13 := ⟨_, rfl⟩
  rw [← hQQ] at HS1 HS2 HQx
  have HQe := Lib.hid (hQQ.trans pl13q)
  obtain ⟨T0, hT0⟩ : ∃ T, T = Sc0 9 := ⟨_, rfl⟩
  have hT0' : x130 = T0 := hT0.symm
  rw [← hT0] at HNew
  rw [hT0'] at HS1
  generalize x131 = T1 at HS1 HS2
  generalize x132 = T2 at HS2 HY1
  generalize x133 = T3 at HY1 HY2
  generalize x134 = T4 at HY2 HDe
  generalize x135 = T5 at HDe HY3
  obtain ⟨A0, hA0⟩ : ∃ A, A = XS0 := ⟨_, rfl⟩
  rw [← hA0] at HXn HY1
  generalize e131 = A1 at HY1 HY2
  generalize e132 = A2 at HY2 HDe HY3
  generalize e133 = A3 at HY3 HRc HL1 HL0 HSt hsi
  clear hX hE hsi hQQ hT0 hT0' hA0
  go_enter Tryz.func8, Tryz.ntmps8
  go_wp2_with fail
  refine HNew.out.mono ?_
  rintro e w1 ⟨gs, Fs, rfl, sb, hF, b1⟩
  have HXb := Lib.hid sb
  have HB := Lib.hid (And.intro b1 (And.intro hF b1.size))
  clear sb hF b1 HNew
  go_wp2_with fail
  refine (HMv.out _).mono ?_
  rintro e w2 ⟨rfl, b2⟩
  have hbs : Below w2.heap.size w2 ((w2.alloc (.cells Z24.toArray 52)).setCells w2.heap.size 0 QQ) := below_setCells QQ (alloc_below _ _) (Nat.le_refl _)
  have HT3 : Hid ((w2.alloc (.cells Z24.toArray 52)).there w2.heap.size 0 QQ.toArray.size) := Lib.hid (blk_there (Blk.new w2 _ _) (by rw [List.size_toArray, HQx.out.len]; exact Nat.le_refl 24))
  have HE3 : Hid (Blk ((w2.alloc (.cells Z24.toArray 52)).setCells w2.heap.size 0 QQ) w2.heap.size 52 QQ.toArray ∧ Below w1.heap.size w1 ((w2.alloc (.cells Z24.toArray 52)).setCells w2.heap.size 0 QQ)) := Lib.hid ⟨blk_over (Blk.new w2 _ _) (by rw [HQx.out.len]; rfl), bthen b2 hbs⟩
  have HNf : Hid (¬ Fs w2.heap.size) := Lib.hid (fun c => by have := HKx.out.inb _ _ _ _ HXb.out _ c; have := b2.size; omega)
  clear b2 hbs HMv
  go_upto_region 3 with (refine wpList_store_mid rfl 52 (.tmp 3) (.tmp 22) rfl w2.heap.size 0 QQ.toArray rfl (by rw [HQe.out]; rfl) HT3.out HQx.out.sizea HQx.out.onea ?_)
  refine fin (fun W => Blk W w2.heap.size 52 QQ.toArray ∧ Below w1.heap.size w1 W) HE3.out ?_
  clear HE3 HT3
  obtain ⟨g3, hg3⟩ : ∃ g3, g3 = w2.heap.size := ⟨_, rfl⟩
  rw [← hg3] at HNf ⊢
  rintro W3 ⟨k3, hb3⟩
  have K3 := Lib.hid k3
  replace HXb := Lib.hid (HKx.out.keep HXb.out hb3)
  replace HB := Lib.hid (And.intro (bthen HB.out.1 hb3) (And.intro HB.out.2.1 (Nat.le_trans HB.out.2.2 hb3.size)))
  clear k3 hb3 hg3
  go_wp2_with (first
    | refine wpList_load_mid rfl 52 (.tmp 3) rfl g3 0 rfl QQ _ (blk_whole K3.out) Tryz.underlying52 rfl HQx.out.size ?_)
  refine (HS1.out _ gs Fs HXb.out).mono ?_
  rintro e w4 ⟨rfl, ch⟩
  replace K3 := Lib.hid (by
    obtain ⟨F', q1, q2, q3⟩ := ch
    exact K3.out.same (q2.2.2.2.2 g3 K3.out.lt HNf.out) : Hid (Blk w4 g3 52 QQ.toArray))
  obtain ⟨Fs1, sb, hb⟩ := ch.step HB.out.1 HB.out.2.1 HB.out.2.2
  replace HXb := Lib.hid sb
  replace HB := Lib.hid hb
  clear ch sb hb HS1 HNf
  go_wp2_with (first
    | refine wpList_load_mid rfl 52 (.tmp 3) rfl g3 0 rfl QQ _ (blk_whole K3.out) Tryz.underlying52 rfl HQx.out.size ?_)
  refine (HS2.out _ gs Fs1 HXb.out).mono ?_
  rintro e w5 ⟨rfl, ch⟩
  obtain ⟨Fs2, sb, hb⟩ := ch.step HB.out.1 HB.out.2.1 HB.out.2.2
  replace HXb := Lib.hid sb
  replace HB := Lib.hid hb
  clear ch sb hb HS2 K3 HQx HQe
  go_wp2_with fail
  refine (HXn.out _).mono ?_
  rintro e w6 ⟨g, F, rfl, heb, hF, b6⟩
  have HDu : Hid (Du EB XB w w6 g gs F Fs2 A0 T2) := Lib.hid ⟨heb, HKx.out.keep HXb.out b6, fun b c d => by have := hF b c; have := HKx.out.inb _ _ _ _ HXb.out b d; omega, bthen HB.out.1 b6, fun b c => Nat.le_trans HB.out.2.2 (hF b c), HB.out.2.1⟩
  clear heb hF b6 HXb HB HXn
  go_wp2_with fail
  refine (HY1.out _ _ _ _ _ HDu.out).mono ?_
  rintro e w7 ⟨a1, c1, F1, Fs3, rfl, h⟩
  replace HDu := Lib.hid h
  clear h HY1
  go_wp2_with fail
  refine (HY2.out _ _ _ _ _ HDu.out).mono ?_
  rintro e w8 ⟨a2, c2, F2, Fs4, rfl, h⟩
  replace HDu := Lib.hid h
  clear h HY2
  go_wp2_with fail
  refine (HDe.out _ _ _ _ _ HDu.out).mono ?_
  rintro e w9 ⟨rfl, Fs5, h⟩
  replace HDu := Lib.hid h
  clear h HDe
  go_wp2_with fail
  refine (HY3.out _ _ _ _ _ HDu.out).mono ?_
  rintro e w10 ⟨a3, c3, F3, rfl, heb, hb⟩
  have HEb := Lib.hid heb
  have HB := Lib.hid hb
  clear heb hb HY3 HDu
  go_wp2_with fail
  refine (HRc.out _ _ _ HEb.out).mono ?_
  rintro e w11 ⟨rb, roff, rcap, rfl, k1, k9, hrl, heb, hb⟩
  replace HEb := Lib.hid heb
  replace HB := Lib.hid (bthen HB.out hb)
  clear heb hb HRc
  go_wp2_with fail
  refine (HL1.out _ _ _ HEb.out).mono ?_
  rintro e w12 ⟨rfl, heb, hb⟩
  replace HEb := Lib.hid heb
  replace HB := Lib.hid (bthen HB.out hb)
  clear heb hb HL1 k1 k9 hrl
  go_wp2_with fail
  refine (HL0.out _ _ _ HEb.out).mono ?_
  rintro e w13 ⟨rfl, heb, hb⟩
  replace HEb := Lib.hid heb
  replace HB := Lib.hid (bthen HB.out hb)
  clear heb hb HL0
  go_wp2_with fail
  refine (HSt.out _ _ _ HEb.out).mono ?_
  rintro e w14 ⟨rfl, hb⟩
  replace HB := Lib.hid (bthen HB.out hb)
  clear hb HSt HEb
  go_wp2
  go_ret
  exact ⟨rfl, HB.out⟩
end
end Go.Proofs.YthhfcedhbfandaaGreat
namespace Go.Proofs.YthhfcedhbfandaaGreat
open Go.ChangeShapes Go.WideShapes Go.ChangeAt Go.RowKit Go.Deep
set_option linter.unusedVariables false

instance : Inhabited A8 := ⟨⟨0, 0, false, 0, zT, none, 0, 0, []⟩⟩
section
variable {H : Type} {enc : TypeId × Value → H} {w : World} {base : Nat} {held : Bool}
theorem open_kinds8 {fuel : Nat} {cs : List Value} {x : DataW H × List MemPlace} (h : DataW.trod enc Tryz.prog w base (fun _ => true) held fuel 53 cs = some x) : ∃ a len cap zs, cs = [.slice a len cap] ∧ Row w a len zs := by
  rcases open_ints Tryz.underlying53 Tryz.underlying244 (by kernel_rfl) h with ⟨hcs, _⟩ | ⟨ad, l, c, zs, hcs, _, hl, hm, hz, _, hcell, hwz⟩
  · exact ⟨none, 0, 0, [], hcs, rfl, by omega, .inl rfl⟩
  · unfold maxLen at hm
    simp only [if_true] at hz
    refine ⟨some ad, l, c, zs.take l, hcs, by rw [List.length_take]; omega, by omega, ?_⟩
    by_cases h0 : l = 0
    · exact .inl h0
    · obtain ⟨b, off, spot⟩ := ad
      have hspot : spot = none := by simpa [Addr.add] using World.cell?_spot (hcell 0 (by omega))
      subst hspot
      refine .inr ⟨b, off, rfl, fun i hi => ?_⟩
      have := hcell i (by omega)
      rw [Addr.add_mid] at this
      rw [this]
      simp [hi]
end
end Go.Proofs.YthhfcedhbfandaaGreat
namespace Go.Proofs.YthhfcedhbfandaaGreat.storeTold
open Go.ChangeShapes Go.WideShapes Go.ChangeAt Go.RowKit Go.Deep
set_option linter.unusedVariables false
theorem own : ownKnob Tryz.prog.godebug = none := by kernel_rfl
section
variable {SB : World → Nat → (Nat → Prop) → St → Prop}
end
end Go.Proofs.YthhfcedhbfandaaGreat.storeTold
namespace Go.Proofs.YthhfcedhbfandaaGreat
open Go.ChangeShapes Go.WideShapes Go.ChangeAt Go.RowKit Go.Deep
set_option linter.unusedVariables false

instance : Inhabited A11 := ⟨⟨0, 0, 0, zT, none, 0, 0, []⟩⟩
section
variable {H : Type} {enc : TypeId × Value → H} {w : World} {base : Nat} {held : Bool}
theorem act_open11 {fuel : Nat} {cs : List Value} {x : DataW H × List MemPlace} (hl : cs.length = 28) (h : DataW.trod enc Tryz.prog w base (fun _ => true) held fuel 55 cs = some x) : ∃ a : A11, cs = c11 a ∧ ok11 w a := by
  obtain ⟨xs, n, _, _, _, hxl, hx⟩ := DataW.trod_struct Tryz.underlying55 h
  have hxl2 : xs.length = 5 := hxl
  have hc0 : Tryz.prog.cellsOf 5 = 1 := by kernel_rfl
  have f0 : DataW.trod enc Tryz.prog w base (fun _ => true) held n 5 ((cs.drop 0).take 1) = some (xs[0]'(by omega)) := by
    have := (hx 0 _ rfl).trans (List.getElem?_eq_getElem (show 0 < xs.length by omega))
    exact (congrArg (fun c => DataW.trod enc Tryz.prog w base (fun _ => true) held n 5 ((cs.drop 0).take c)) hc0.symm).trans this
  have f1 : DataW.trod enc Tryz.prog w base (fun _ => true) held n 5 ((cs.drop 1).take 1) = some (xs[1]'(by omega)) := by
    have := (hx 1 _ rfl).trans (List.getElem?_eq_getElem (show 1 < xs.length by omega))
    exact (congrArg (fun c => DataW.trod enc Tryz.prog w base (fun _ => true) held n 5 ((cs.drop 1).take c)) hc0.symm).trans this
  have f2 : DataW.trod enc Tryz.prog w base (fun _ => true) held n 5 ((cs.drop 2).take 1) = some (xs[2]'(by omega)) := by
    have := (hx 2 _ rfl).trans (List.getElem?_eq_getElem (show 2 < xs.length by omega))
    exact (congrArg (fun c => DataW.trod enc Tryz.prog w base (fun _ => true) held n 5 ((cs.drop 2).take c)) hc0.symm).trans this
  have hc4 : Tryz.prog.cellsOf 52 = 24 := by kernel_rfl
  have f4 : DataW.trod enc Tryz.prog w base (fun _ => true) held n 52 ((cs.drop 3).take 24) = some (xs[3]'(by omega)) := by
    have := (hx 3 _ rfl).trans (List.getElem?_eq_getElem (show 3 < xs.length by omega))
    exact (congrArg (fun c => DataW.trod enc Tryz.prog w base (fun _ => true) held n 52 ((cs.drop 3).take c)) hc4.symm).trans this
  have hc5 : Tryz.prog.cellsOf 53 = 1 := by kernel_rfl
  have f5 : DataW.trod enc Tryz.prog w base (fun _ => true) held n 53 ((cs.drop 27).take 1) = some (xs[4]'(by omega)) := by
    have := (hx 4 _ rfl).trans (List.getElem?_eq_getElem (show 4 < xs.length by omega))
    exact (congrArg (fun c => DataW.trod enc Tryz.prog w base (fun _ => true) held n 53 ((cs.drop 27).take c)) hc5.symm).trans this
  obtain ⟨v0, e0, _, w0⟩ := DataW.trod_int Tryz.underlying5 f0
  obtain ⟨v1, e1, _, w1⟩ := DataW.trod_int Tryz.underlying5 f1
  obtain ⟨v2, e2, _, w2⟩ := DataW.trod_int Tryz.underlying5 f2
  obtain ⟨P, hP⟩ := parts_open (by rw [List.length_take, List.length_drop]; omega) f4
  obtain ⟨ka, kl, kc, ks, e5, hrow⟩ := open_kinds8 f5
  refine ⟨⟨v0, v1, v2, P, ka, kl, kc, ks⟩, ?_, (bounds_u8 w0).1, (bounds_u8 w0).2, (bounds_u8 w1).1, (bounds_u8 w1).2, (bounds_u8 w2).1, (bounds_u8 w2).2, hrow⟩
  have d0 : cs = (cs.drop 0).take 1 ++ ((cs.drop 1).take 1 ++ ((cs.drop 2).take 1 ++ ((cs.drop 3).take 24 ++ (cs.drop 27).take 1))) := by
    have a5 : (cs.drop 27).take 1 = cs.drop 27 := List.take_of_length_le (by rw [List.length_drop]; omega)
    have st : ∀ o k, (cs.drop o).take k ++ cs.drop (o + k) = cs.drop o := fun o k => by
      have := List.take_append_drop k (cs.drop o)
      rwa [List.drop_drop] at this
    rw [a5, st 3 24, st 2 1, st 1 1, st 0 1, List.drop_zero]
  rw [d0, e0, e1, e2, hP, e5]
  rfl
end
end Go.Proofs.YthhfcedhbfandaaGreat
namespace Go.Proofs.YthhfcedhbfandaaGreat.scenePlays
open Go.ChangeShapes Go.WideShapes Go.ChangeAt Go.RowKit Go.Deep
set_option linter.unusedVariables false
theorem own : ownKnob Tryz.prog.godebug = none := by kernel_rfl
section
variable {XB : World → Nat → (Nat → Prop) → Sc → Prop}
end
end Go.Proofs.YthhfcedhbfandaaGreat.scenePlays
namespace Go.Proofs.YthhfcedhbfandaaGreat
open Go.RowKit

abbrev S13 := A11 × Bool × Bool
def c13 (x : S13) : List Value := c11 x.1 ++ [.bool x.2.1, .bool x.2.2]
theorem c13_len (x : S13) : (c13 x).length = 30 := rfl
def ARow13 (w : World) (a : Option Addr) (len : Nat) (xs : List S13) : Prop := xs.length = len ∧ len ≤ 9223372036854775807 ∧ (len = 0 ∨ ∃ b off, a = some ⟨b, off, none⟩ ∧ b < w.heap.size ∧ ∀ i x, xs[i]? = some x → w.rangeAt b (off + i * 30) (c13 x) ∧ ok11 w x.1)
theorem ARow13.at_ {w : World} {a : Option Addr} {n : Nat} {xs : List S13} (h : ARow13 w a n xs) {i : Nat} (hi : i < n) : ∃ b off x, a = some ⟨b, off, none⟩ ∧ xs[i]? = some x ∧ w.rangeAt b (off + i * 30) (c13 x) ∧ ok11 w x.1 := by
  obtain ⟨h1, h2, h3⟩ := h
  rcases h3 with h3 | ⟨b, off, e, hb, hr⟩
  · omega
  · have hx : xs[i]? = some (xs[i]'(by omega)) := List.getElem?_eq_getElem (by omega)
    exact ⟨b, off, _, e, hx, hr i _ hx⟩
set_option maxHeartbeats 2000000 in
set_option maxRecDepth 100000 in
theorem fits13_any (a : Option Addr) (len cap : Nat) (xs : List S13) (w : World) (row : ARow13 w a len xs) :
    Calls Tryz.prog 6 #[.slice a len cap] w fun e w' => ∃ b, e = .returned (.bool b) ∧ (b = true → len ≤ 40 ∧ ∀ x ∈ xs, x.1.n ≤ 40) ∧ w = w' := by
  have hbig := row.2.1
  have HL := Lib.hid row.1
  have HRow := Lib.hid row
  clear row
  go_enter Tryz.func6, Tryz.ntmps6
  go_wp2
  go_loopw [3] (fun i wr => ∃ j : Nat, j ≤ len ∧ j ≤ 41 ∧ i = .int .i64 j ∧ (∀ q x, q < j → xs[q]? = some x → x.1.n ≤ 40) ∧ wr = w) (fun i _ => len - (intOf i).toNat)
  case atStart => exact ⟨0, by omega, by omega, rfl, fun q x hq => by omega, rfl⟩
  case round =>
    obtain ⟨j, hj, hj2, rfl, hz, rfl⟩ := hrel
    have HZ := Lib.hid hz
    clear hz
    by_cases hlt : j < len
    · have j1 : (j : Int) < (len : Int) := by omega
      have j0 : (0 : Int) ≤ (j : Int) := by omega
      by_cases h40 : j ≤ 40
      · have j2 : (j : Int) ≤ 40 := by omega
        obtain ⟨b, off, x, rfl, hx, hr, hok⟩ := HRow.out.at_ hlt
        have cx : wr.cell? ⟨b, off + j * 30 + 27, none⟩ = some (.slice x.1.a x.1.n x.1.cap) := hr 27 _ rfl
        have hb := World.block_lt_of_cell? _ _ cx
        have HX := Lib.hid hx
        have hxn := hok.2.2.2.2.2.2.2.1
        clear hr hok hx
        obtain ⟨xn, hxe⟩ : ∃ xn, xn = x.1.n := ⟨_, rfl⟩
        have HXE := Lib.hid hxe
        rw [← hxe] at cx hxn
        clear hxe
        by_cases hn : xn ≤ 40
        · have n1 : ¬ (40 : Int) < (xn : Int) := by omega
          go_wp2
          go_roundw
          case rel => exact ⟨j + 1, by omega, by omega, by go_num, fun q y hq hy => by
            rcases Nat.lt_succ_iff_lt_or_eq.1 hq with c | c
            · exact HZ.out q y c hy
            · rw [c, HX.out] at hy
              injection hy with hy
              rw [← hy, ← HXE.out]
              exact hn, by trivial⟩
          case measure => simp [intOf] <;> omega
        · have n1 : (40 : Int) < (xn : Int) := by omega
          go_wp2
          go_ret
          exact Or.inl ⟨rfl, rfl⟩
      · have j2 : ¬ (j : Int) ≤ 40 := by omega
        have hl40 : ¬ (len : Int) ≤ 40 := by omega
        go_wp2
        go_ret
        exact Or.inl ⟨rfl, rfl⟩
    · obtain rfl : j = len := by omega
      go_wp2
      go_ret
      refine ⟨decide ((j : Int) ≤ 40), rfl, fun c => ?_, rfl⟩
      have c' : (j : Int) ≤ 40 := by simpa using c
      refine ⟨by omega, fun x hx => ?_⟩
      obtain ⟨q, hq, e⟩ := List.mem_iff_getElem.1 hx
      exact HZ.out q x (by rw [HL.out] at hq; exact hq) (by rw [← e]; exact List.getElem?_eq_getElem hq)

open Go.ChangeShapes Go.WideShapes Go.ChangeAt Go.RowKit Go.Deep
set_option linter.unusedVariables false
section
variable {H : Type} {enc : TypeId × Value → H} {w : World} {base : Nat} {held : Bool}
instance : Inhabited S13 := ⟨(default, false, false)⟩
theorem step_open13 {fuel : Nat} {cs : List Value} {x : DataW H × List MemPlace} (hl : cs.length = 30) (h : DataW.trod enc Tryz.prog w base (fun _ => true) held fuel 57 cs = some x) : ∃ s : S13, cs = c13 s ∧ ok11 w s.1 := by
  obtain ⟨xs, n, _, _, _, hxl, hx⟩ := DataW.trod_struct Tryz.underlying57 h
  have hxl2 : xs.length = 3 := hxl
  have hc0 : Tryz.prog.cellsOf 55 = 28 := by kernel_rfl
  have hc1 : Tryz.prog.cellsOf 4 = 1 := by kernel_rfl
  have f0 : DataW.trod enc Tryz.prog w base (fun _ => true) held n 55 ((cs.drop 0).take 28) = some (xs[0]'(by omega)) := by
    have := (hx 0 _ rfl).trans (List.getElem?_eq_getElem (show 0 < xs.length by omega))
    exact (congrArg (fun c => DataW.trod enc Tryz.prog w base (fun _ => true) held n 55 ((cs.drop 0).take c)) hc0.symm).trans this
  have f1 : DataW.trod enc Tryz.prog w base (fun _ => true) held n 4 ((cs.drop 28).take 1) = some (xs[1]'(by omega)) := by
    have := (hx 1 _ rfl).trans (List.getElem?_eq_getElem (show 1 < xs.length by omega))
    exact (congrArg (fun c => DataW.trod enc Tryz.prog w base (fun _ => true) held n 4 ((cs.drop 28).take c)) hc1.symm).trans this
  have f2 : DataW.trod enc Tryz.prog w base (fun _ => true) held n 4 ((cs.drop 29).take 1) = some (xs[2]'(by omega)) := by
    have := (hx 2 _ rfl).trans (List.getElem?_eq_getElem (show 2 < xs.length by omega))
    exact (congrArg (fun c => DataW.trod enc Tryz.prog w base (fun _ => true) held n 4 ((cs.drop 29).take c)) hc1.symm).trans this
  obtain ⟨a, e0, hok⟩ := act_open11 (by rw [List.length_take, List.length_drop]; omega) f0
  obtain ⟨b1, e1, _⟩ := DataW.trod_bool Tryz.underlying4 f1
  obtain ⟨b2, e2, _⟩ := DataW.trod_bool Tryz.underlying4 f2
  refine ⟨(a, b1, b2), ?_, hok⟩
  have d0 : cs = (cs.drop 0).take 28 ++ ((cs.drop 28).take 1 ++ (cs.drop 29).take 1) := by
    have a5 : (cs.drop 29).take 1 = cs.drop 29 := List.take_of_length_le (by rw [List.length_drop]; omega)
    have st : ∀ o k, (cs.drop o).take k ++ cs.drop (o + k) = cs.drop o := fun o k => by
      have := List.take_append_drop k (cs.drop o)
      rwa [List.drop_drop] at this
    rw [a5, st 28 1, st 0 28, List.drop_zero]
  rw [d0, e0, e1, e2]
  rfl
theorem open_steps13 {fuel : Nat} {a : Option Addr} {len cap : Nat} {x : DataW H × List MemPlace} (h : DataW.trod enc Tryz.prog w base (fun _ => true) held fuel 22 [.slice a len cap] = some x) : ∃ As, ARow13 w a len As := by
  rcases open_slice Tryz.underlying22 h with ⟨hcs, _⟩ | ⟨ad, l, c, m, n, D, Pl, hcs, _, hlc, hm, hmm, _, hi⟩
  · simp at hcs
    obtain ⟨rfl, rfl, rfl⟩ := hcs
    exact ⟨[], rfl, by omega, .inl rfl⟩
  · simp at hcs
    obtain ⟨rfl, rfl, rfl⟩ := hcs
    unfold maxLen at hm
    have hC : Tryz.prog.cellsOf 57 = 30 := by kernel_rfl
    rw [hC] at hi
    simp only [if_true] at hmm
    subst hmm
    obtain ⟨V, hV⟩ := choose_lt (α := S13) (n := len) (p := fun i x => (∀ j v, (c13 x)[j]? = some v → w.cell? ((ad.add (i * 30)).add j) = some v) ∧ ok11 w x.1) (fun i hil => by
      obtain ⟨cs', hc, ht⟩ := hi i (by omega)
      obtain ⟨_, hlen, hat⟩ := World.cells?_some hc
      obtain ⟨x, hx, hb⟩ := step_open13 hlen ht
      refine ⟨x, fun j v hv => ?_, hb⟩
      have hj : j < 30 := by have := (List.getElem?_eq_some_iff.1 hv).1; rw [c13_len] at this; exact this
      rw [hat j hj, hx]
      exact hv)
    refine ⟨(List.range len).map V, by simp, by omega, ?_⟩
    by_cases h0 : len = 0
    · exact .inl h0
    · obtain ⟨b, off, spot⟩ := ad
      have c0 := (hV 0 (by omega)).1 0 _ rfl
      have hspot : spot = none := by simpa [Addr.add] using World.cell?_spot c0
      subst hspot
      have hb : b < w.heap.size := by
        have := cell_lt c0
        simpa [add_plain] using this
      refine .inr ⟨b, off, rfl, hb, fun i x hx => ?_⟩
      have hil : i < len := by have := (List.getElem?_eq_some_iff.1 hx).1; simpa using this
      have e : V i = x := by
        rw [List.getElem?_map, List.getElem?_range hil] at hx
        simpa using hx
      rw [← e]
      refine ⟨fun j v hv => ?_, (hV i hil).2⟩
      have := (hV i hil).1 j v hv
      simpa only [add_plain] using this
end
end Go.Proofs.YthhfcedhbfandaaGreat
