/-
  4 texts in one file, each with its own heading.
-/
import Derived.Test.YtkondkajpmafkaaGreatMP13
import Derived.Test.YtkondkajpmafkaaGreatMP19
import Derived.Deep.QuietTactic
import Derived.Maps.AppendAt
import Derived.Test.YtkondkajpmafkaaGreatRows
import Derived.WalkKit
import Derived.ProofKit
import Derived.OpenShut
import Derived.ShutString
import Derived.ChangeOld
import Derived.Below
/-
  All changes are told: the law's walk, for any package that answers as the bundle says.
-/
namespace Go.Proofs.YtkondkajpmafkaaGreat
open Go.RowKit

def cP (x : Int × PT) : List Value := pl x.2
theorem wpList_bs8 {ops : Array Oper} {rest : List Oper} {op : Oper} {a : Go.Act} {w : World} {Q : Exit → Go.Act → World → Prop} (hgd : op.guard = none) (t e : TypeId) (x : Operand) (ho : op.op = .buildSlice t 1 #[(0, x)]) (X : List Value) (hx : a.eval x = .agg X.toArray)
    (hrun : ∀ W, (Instr.buildSlice t 1 #[(0, .agg X.toArray)]).run Tryz.prog W = .ok (.slice (some ⟨W.heap.size, 0, none⟩) 1 1) (W.alloc (.cells X.toArray e)))
    (h : wpList Tryz.prog ops Q rest (a.put op.dst (.slice (some ⟨w.heap.size, 0, none⟩) 1 1)) (w.alloc (.cells X.toArray e))) : wpList Tryz.prog ops Q (op :: rest) a w :=
  wpList_plain hgd fun K hK => by
    have h2 := hK _ _ h
    unfold Oper.wp execOp
    simp only [ho]
    simp [hx, hrun]
    exact h2
theorem col_keep {w w' : World} {t : TypeId} {k : Nat} {c : Int × PT → List Value} {v : Value} {X : TR} (h : ColX w t k c v X) (hb : Below w.heap.size w w') : ColX w' t k c v X :=
  h.same (fun b e => hb.block b (World.ownsRow.lt h b e).2)
section
variable (SB : World → Nat → (Nat → Prop) → St → Prop)
structure R1 (w : World) (g m : Nat) (v8 v9 : Value) (since : Int) (wr : World) (F : Nat → Prop) (S : St) (X : TR) : Prop where
  ids : ∃ ia icap, v8 = .slice ia X.length icap ∧ Row wr ia X.length (X.map Prod.fst) ∧ Aw F ia X.length
  was : ColX wr 43 24 cP v9 X
  own : ∀ b, v9.ownBlock = some b → ¬ F b
  sb : SB wr g F S
  told : Told (fun _ => True) (fun x P => (x, P) ∈ X) since S
  bd : Bd S m
  bel : Below w.heap.size w wr
  foot : ∀ b, F b → w.heap.size ≤ b
  len : X.length ≤ 256
  s0 : 0 ≤ since
  s1 : since ≤ 1000
end
section
variable {SB : World → Nat → (Nat → Prop) → St → Prop}
end
end Go.Proofs.YtkondkajpmafkaaGreat
namespace Go.Proofs.YtkondkajpmafkaaGreat
open Go.ChangeShapes Go.WideShapes Go.ChangeAt Go.RowKit Go.Deep
set_option linter.unusedVariables false

instance : Inhabited A8 := ⟨⟨0, 0, false, 0, zT, none, 0, 0, []⟩⟩
section
variable {H : Type} {enc : TypeId × Value → H} {w : World} {base : Nat} {held : Bool}
theorem open_kinds8 {fuel : Nat} {cs : List Value} {x : DataW H × List MemPlace} (h : DataW.trod enc Tryz.prog w base (fun _ => true) held fuel 44 cs = some x) : ∃ a len cap zs, cs = [.slice a len cap] ∧ Row w a len zs := by
  rcases open_ints Tryz.underlying44 Tryz.underlying109 (by kernel_rfl) h with ⟨hcs, _⟩ | ⟨ad, l, c, zs, hcs, _, hl, hm, hz, _, hcell, hwz⟩
  · exact ⟨none, 0, 0, [], hcs, rfl, by omega, .inl rfl⟩
  · unfold maxLen at hm
    simp only [if_true] at hz
    refine ⟨some ad, l, c, zs.take l, hcs, by rw [List.length_take]; omega, by omega, ?_⟩
    by_cases h0 : l = 0
    · exact .inl h0
    · obtain ⟨b, off, spot⟩ := ad
      have hspot : spot = none := by simpa [Addr.add] using World.cell?_spot (hcell 0 (by omega))
      subst hspot
      refine .inr ⟨b, off, rfl, fun i hi => ?_⟩
      have := hcell i (by omega)
      rw [Addr.add_mid] at this
      rw [this]
      simp [hi]
end
end Go.Proofs.YtkondkajpmafkaaGreat
namespace Go.Proofs.YtkondkajpmafkaaGreat.storeTold
open Go.ChangeShapes Go.WideShapes Go.ChangeAt Go.RowKit Go.Deep
set_option linter.unusedVariables false
theorem own : ownKnob Tryz.prog.godebug = none := by kernel_rfl
theorem laidOut : laidOutB Tryz.prog = true := by kernel_rfl
section
variable {SB : World → Nat → (Nat → Prop) → St → Prop}
end
end Go.Proofs.YtkondkajpmafkaaGreat.storeTold
namespace Go.Proofs.YtkondkajpmafkaaGreat
open Go.RowKit

def poolX (E : Nat → Value) (R : Int) (G : Nat → Int) (L : Nat → Bool) (j : Nat) : Value := if j < 513 then poolF R G L j else E j
section
variable {w : World} {g : Nat} {t : TypeId} {N : Nat} {E : Nat → Value} {R : Int} {G : Nat → Int} {L : Nat → Bool} {k : Nat}
theorem pool_room8 (hN : 513 ≤ N) (h : w.rowIs g t N (poolX E R G L)) : w.cell? ⟨g, 0, none⟩ = some (.int .i64 R) := h.cell (i := 0) (by omega)
theorem pool_gen8 (hN : 513 ≤ N) (h : w.rowIs g t N (poolX E R G L)) (hk : k < 256) : w.cell? ⟨g, 1 + k, none⟩ = some (.int .i64 (G k)) := by
  rw [h.cell (i := 1 + k) (by omega)]
  unfold poolX poolF
  rw [if_pos (by omega), if_neg (by omega), if_pos (by omega), show 1 + k - 1 = k by omega]
theorem pool_live8 (hN : 513 ≤ N) (h : w.rowIs g t N (poolX E R G L)) (hk : k < 256) : w.cell? ⟨g, 257 + k, none⟩ = some (.bool (L k)) := by
  rw [h.cell (i := 257 + k) (by omega)]
  unfold poolX poolF
  rw [if_pos (by omega), if_neg (by omega), if_neg (by omega), show 257 + k - 257 = k by omega]
theorem pool_setL8 (_hN : 513 ≤ N) (h : w.rowIs g t N (poolX E R G L)) (hk : k < 256) (b : Bool) : (w.setCell ⟨g, 257 + k, none⟩ (.bool b)).rowIs g t N (poolX E R G (upd L k b)) :=
  (h.set (257 + k) (.bool b)).congr fun i hi => by
    unfold poolX poolF upd
    by_cases e : i = 257 + k
    · rw [if_pos e, if_pos (by omega), if_neg (by omega), if_neg (by omega), if_pos (by omega)]
    · rw [if_neg e]
      by_cases ee : i < 513
      · rw [if_pos ee, if_pos ee]
        by_cases e0 : i = 0
        · rw [if_pos e0, if_pos e0]
        · rw [if_neg e0, if_neg e0]
          by_cases e1 : i < 257
          · rw [if_pos e1, if_pos e1]
          · rw [if_neg e1, if_neg e1, if_neg (by omega)]
      · rw [if_neg ee, if_neg ee]
theorem pool_setG8 (_hN : 513 ≤ N) (h : w.rowIs g t N (poolX E R G L)) (hk : k < 256) (x : Int) : (w.setCell ⟨g, 1 + k, none⟩ (.int .i64 x)).rowIs g t N (poolX E R (upd G k x) L) :=
  (h.set (1 + k) (.int .i64 x)).congr fun i hi => by
    unfold poolX poolF upd
    by_cases e : i = 1 + k
    · rw [if_pos e, if_pos (by omega), if_neg (by omega), if_pos (by omega), if_pos (by omega)]
    · rw [if_neg e]
      by_cases ee : i < 513
      · rw [if_pos ee, if_pos ee]
        by_cases e0 : i = 0
        · rw [if_pos e0, if_pos e0]
        · rw [if_neg e0, if_neg e0]
          by_cases e1 : i < 257
          · rw [if_pos e1, if_pos e1, if_neg (by omega)]
          · rw [if_neg e1, if_neg e1]
      · rw [if_neg ee, if_neg ee]
end

set_option maxHeartbeats 1000000 in
set_option maxRecDepth 100000 in
theorem plive8 {t : TypeId} {N : Nat} {E : Nat → Value} (hN : 513 ≤ N) (g : Nat) (R : Int) (G : Nat → Int) (L : Nat → Bool) (x : Int) (w : World) (row : w.rowIs g t N (poolX E R G L)) :
    Calls Tryz.prog 76 #[.pointer (some ⟨g, 0, none⟩), .int .i64 x] w fun e w' => e = .returned (.bool (liveB G L x)) ∧ w = w' := by
  by_cases ho : idOk x = true
  · obtain ⟨i, q, hi, hq, hx, ht, hd⟩ := id_parts ho
    have HO := Lib.hid ho
    rw [show liveB G L x = (L i && decide (G i = (q : Int))) by rw [hx]; exact live_of hi hq]
    clear ho hx
    have cl := pool_live8 hN row hi
    have cg := pool_gen8 hN row hi
    clear row
    have hi0 : (0 : Int) ≤ (i : Int) := by omega
    have hi1 : (i : Int) < 256 := by omega
    obtain ⟨b, hb⟩ : ∃ b, b = L i := ⟨_, rfl⟩
    obtain ⟨y, hy⟩ : ∃ y, y = G i := ⟨_, rfl⟩
    rw [← hb] at cl
    rw [← hy] at cg
    rw [← hb, ← hy]
    clear hb hy
    cases b
    · go_enter Tryz.func76, Tryz.ntmps76
      go_wp2_with fail
      refine (plright_b HO.out _).mono ?_
      rintro e w1 ⟨rfl, rfl⟩
      go_wp2
      go_ret
      exact ⟨rfl, rfl⟩
    · go_enter Tryz.func76, Tryz.ntmps76
      go_wp2_with fail
      refine (plright_b HO.out _).mono ?_
      rintro e w1 ⟨rfl, rfl⟩
      go_wp2
      go_ret
      exact ⟨by simp; rfl, rfl⟩
  · have ho' : idOk x = false := by simpa using ho
    rw [live_no ho']
    have HO := Lib.hid ho'
    clear ho ho'
    go_enter Tryz.func76, Tryz.ntmps76
    go_wp2_with fail
    refine (plright_b HO.out _).mono ?_
    rintro e w1 ⟨rfl, rfl⟩
    go_wp2
    go_ret
    exact ⟨rfl, rfl⟩

set_option maxHeartbeats 1000000 in
set_option maxRecDepth 100000 in
theorem ptake8 {t : TypeId} {N : Nat} {E : Nat → Value} (hN : 513 ≤ N) (g R : Nat) (G : Nat → Int) (L : Nat → Bool) (w : World) (hR : R ≤ 256) (hG : GenOk G) (row : w.rowIs g t N (poolX E R G L)) :
    Calls Tryz.prog 113 #[.pointer (some ⟨g, 0, none⟩)] w fun e w' => e = .returned (.tuple #[.int .i64 (tkV G L R), .int .i64 (tkE G L R)]) ∧ w'.rowIs g t N (poolX E R G (tkL G L R)) ∧ w.grownBy w' (some g) := by
  have HRow := Lib.hid row
  have HG := Lib.hid hG
  have cr := pool_room8 hN row
  clear row hG
  go_enter Tryz.func113, Tryz.ntmps113
  go_wp2
  go_loopw [4] (fun i wr => ∃ k : Nat, k ≤ R ∧ i = .int .i64 k ∧ (∀ j, j < k → freeB G L j = false) ∧ wr = w) (fun i _ => R - (intOf i).toNat)
  case atStart => exact ⟨0, by omega, rfl, fun j hj => by omega, rfl⟩
  case round =>
    obtain ⟨k, hk, rfl, hz, rfl⟩ := hrel
    have HZ := Lib.hid hz
    clear hz
    by_cases hlt : k < R
    · have cl := pool_live8 hN HRow.out (k := k) (by omega)
      have cg := pool_gen8 hN HRow.out (k := k) (by omega)
      have fl := HRow.out.frozen (257 + k)
      have hk0 : (0 : Int) ≤ (k : Int) := by omega
      have hk1 : (k : Int) < 256 := by omega
      have hkR : (k : Int) < (R : Int) := by omega
      obtain ⟨b, hb⟩ : ∃ b, b = L k := ⟨_, rfl⟩
      obtain ⟨y, hy⟩ : ∃ y, y = G k := ⟨_, rfl⟩
      have hyb := HG.out k (by omega)
      rw [← hb] at cl
      rw [← hy] at cg hyb
      have HF : Hid (freeB G L k = (!b && decide (y ≤ 65535))) := Lib.hid (by unfold freeB; rw [hb, hy])
      have HY := Lib.hid hy
      clear hb hy
      cases b
      · by_cases hy : y ≤ 65535
        · have hw1 : IntKind.i64.wrap (256 * y) = 256 * y := IntWalk.i64_in _ (by omega)
          have hw2 : IntKind.i64.wrap (256 * y + (k : Int)) = 256 * y + (k : Int) := IntWalk.i64_in _ (by omega)
          have hgl : 1 + k ≠ 257 + k := by omega
          go_wp2
          go_ret2
          have e1 : tkI G L R = some k := tk_some hlt HZ.out (by rw [HF.out]; simpa using hy)
          have ev : tkV G L R = 256 * y + (k : Int) := by unfold tkV; rw [e1, HY.out]; rfl
          have ee : tkE G L R = 0 := by unfold tkE; rw [e1]
          refine ⟨by rw [ev, ee]; rfl, ?_, grown_set _ _ _ _⟩
          unfold tkL
          rw [e1]
          exact pool_setL8 hN HRow.out (by omega) true
        · have HZ2 := Lib.hid (free_step HZ.out (by rw [HF.out]; simpa using hy))
          go_wp2
          go_roundw
          case rel => exact ⟨k + 1, by omega, by go_num, HZ2.out, by trivial⟩
          case measure => simp [intOf] <;> omega
      · have HZ2 := Lib.hid (free_step HZ.out (by rw [HF.out]; rfl))
        go_wp2
        go_roundw
        case rel => exact ⟨k + 1, by omega, by go_num, HZ2.out, by trivial⟩
        case measure => simp [intOf] <;> omega
    · obtain rfl : k = R := by omega
      have e1 : tkI G L k = none := tk_none HZ.out
      have HE := Lib.hid e1
      clear e1
      go_wp2
      go_ret2
      have ev : tkV G L k = 0 := by unfold tkV; rw [HE.out]
      have ee : tkE G L k = 3 := by unfold tkE; rw [HE.out]
      have el : tkL G L k = L := by unfold tkL; rw [HE.out]
      exact ⟨by rw [ev, ee]; rfl, by rw [el]; exact HRow.out, World.grownBy.refl _ _⟩

set_option maxHeartbeats 1000000 in
set_option maxRecDepth 100000 in
theorem pdrop8 {t : TypeId} {N : Nat} {E : Nat → Value} (hN : 513 ≤ N) (g : Nat) (R : Int) (G : Nat → Int) (L : Nat → Bool) (x : Int) (w : World) (hG : GenOk G) (row : w.rowIs g t N (poolX E R G L)) :
    Calls Tryz.prog 105 #[.pointer (some ⟨g, 0, none⟩), .int .i64 x] w fun e w' => e = .returned (.bool (liveB G L x)) ∧ w'.rowIs g t N (poolX E R (drG G L x) (drL G L x)) ∧ w.grownBy w' (some g) := by
  have HRow := Lib.hid row
  clear row
  by_cases ho : liveB G L x = true
  · have hid : idOk x = true := by
      by_cases c : idOk x = true
      · exact c
      · rw [live_no (by simpa using c)] at ho; cases ho
    obtain ⟨i, q, hi, hq, hx, ht, hd⟩ := id_parts hid
    have hdL : drL G L x = upd L i false := by unfold drL; rw [if_pos ho, show (x % 256).toNat = i by omega]
    have hdG : drG G L x = upd G i (G i + 1) := by unfold drG; rw [if_pos ho, show (x % 256).toNat = i by omega]
    rw [hdL, hdG, ho]
    have HO : Hid (∀ w', w'.rowIs g t N (poolX E R G L) → Calls Tryz.prog 76 #[.pointer (some ⟨g, 0, none⟩), .int .i64 x] w' fun e w'' => e = .returned (.bool true) ∧ w' = w'') :=
      Lib.hid (fun w' hr => (plive8 hN g R G L x w' hr).mono fun _ _ ⟨he, hw⟩ => ⟨by rw [he, ho], hw⟩)
    have hyb := hG i hi
    clear hG ho hid hx hd hdL hdG
    have cl := pool_live8 hN HRow.out hi
    have fl := HRow.out.frozen (257 + i)
    have HRow2 := Lib.hid (pool_setL8 hN HRow.out hi false)
    have cg := pool_gen8 hN HRow2.out hi
    have fg := HRow2.out.frozen (1 + i)
    have hi0 : (0 : Int) ≤ (i : Int) := by omega
    have hi1 : (i : Int) < 256 := by omega
    obtain ⟨y, hy⟩ : ∃ y, y = G i := ⟨_, rfl⟩
    rw [← hy] at cg hyb
    rw [← hy]
    clear hy
    have hw1 : IntKind.i64.wrap (y + 1) = y + 1 := IntWalk.i64_in _ (by omega)
    go_enter Tryz.func105, Tryz.ntmps105
    go_wp2_with fail
    refine (HO.out _ HRow.out).mono ?_
    rintro e w1 ⟨rfl, rfl⟩
    go_wp2
    go_region
    go_wp2
    go_ret
    exact ⟨rfl, rowIs_drew (pool_setG8 hN HRow2.out hi _), grown_drew (grown_trans (grown_set _ _ _ _) (grown_set _ _ _ _))⟩
  · have ho' : liveB G L x = false := by simpa using ho
    have hdL : drL G L x = L := by unfold drL; rw [if_neg ho]
    have hdG : drG G L x = G := by unfold drG; rw [if_neg ho]
    rw [hdL, hdG, ho']
    have HO : Hid (∀ w', w'.rowIs g t N (poolX E R G L) → Calls Tryz.prog 76 #[.pointer (some ⟨g, 0, none⟩), .int .i64 x] w' fun e w'' => e = .returned (.bool false) ∧ w' = w'') :=
      Lib.hid (fun w' hr => (plive8 hN g R G L x w' hr).mono fun _ _ ⟨he, hw⟩ => ⟨by rw [he, ho'], hw⟩)
    clear ho ho' hG hdL hdG
    go_enter Tryz.func105, Tryz.ntmps105
    go_wp2_with fail
    refine (HO.out _ HRow.out).mono ?_
    rintro e w1 ⟨rfl, rfl⟩
    go_wp2
    go_ret
    exact ⟨rfl, HRow.out, World.grownBy.refl _ _⟩

set_option maxHeartbeats 1000000 in
set_option maxRecDepth 100000 in
theorem pall8 {t : TypeId} {N : Nat} {E : Nat → Value} (hN : 513 ≤ N) (g : Nat) (R : Int) (G : Nat → Int) (L : Nat → Bool) (w : World) (hG : GenOk G) (row : w.rowIs g t N (poolX E R G L)) :
    Calls Tryz.prog 33 #[.pointer (some ⟨g, 0, none⟩)] w fun e w' => ∃ a cap, e = .returned (.slice a (allL G L 256).length cap) ∧ Row w' a (allL G L 256).length (allL G L 256) ∧ Below w.heap.size w w' := by
  have HRow := Lib.hid row
  have HG := Lib.hid hG
  clear row hG
  obtain ⟨i0, hi0, hz0, hz1, hz2⟩ := info_parts id_info
  have HI := Lib.hid (And.intro hi0 (And.intro hz0 (And.intro hz1 hz2)))
  clear hi0 hz0 hz1 hz2
  go_enter Tryz.func33, Tryz.ntmps33
  go_wp2
  go_loopw [3, 4] (fun v i wr => ∃ k : Nat, k ≤ 256 ∧ i = .int .i64 k ∧ OwnD wr w.heap.size v (allL G L k).length (allL G L k) ∧ Below w.heap.size w wr) (fun _ i _ => 256 - (intOf i).toNat)
  case atStart => exact ⟨0, by omega, rfl, OwnD.nil _ _, Below.refl _ _⟩
  case round =>
    obtain ⟨k, hk, rfl, hown, hb⟩ := hrel
    have HOwn := Lib.hid hown
    have HB := Lib.hid hb
    clear hown hb
    have HR2 := Lib.hid (World.rowIs.keep HRow.out HB.out)
    by_cases hlt : k < 256
    · have cl := pool_live8 hN HR2.out hlt
      have cg := pool_gen8 hN HR2.out hlt
      have hk0 : (0 : Int) ≤ (k : Int) := by omega
      have hk1 : (k : Int) < 256 := by omega
      have hyb := HG.out k hlt
      have zg : g < wr.heap.size := HR2.out.lt
      have hle := all_len G L k
      obtain ⟨y, hy⟩ : ∃ y, y = G k := ⟨_, rfl⟩
      rw [← hy] at cg hyb
      have HY := Lib.hid hy
      clear hy
      by_cases hL : L k = true
      · rw [hL] at cl
        have HA := Lib.hid (all_yes (G := G) hL)
        clear hL
        obtain ⟨n, hn⟩ : ∃ n, n = (allL G L k).length := ⟨_, rfl⟩
        rw [← hn] at HOwn hle
        have HN := Lib.hid hn
        clear hn
        have hw1 : IntKind.i64.wrap (256 * y) = 256 * y := IntWalk.i64_in _ (by omega)
        have hw2 : IntKind.i64.wrap (256 * y + (k : Int)) = 256 * y + (k : Int) := IntWalk.i64_in _ (by omega)
        have hsz : w.heap.size ≤ wr.heap.size := HB.out.size
        go_wp2_with (at_builtin; refine wpList_append_own _ rfl (.tmp 15) (.tmp 25) 53 rfl w.heap.size 31 i0 (.int .i64 0) 1 8 Tryz.underlying53 HI.out.1 HI.out.2.1 HI.out.2.2.1 HI.out.2.2.2 rfl (by decide) _ _ _ rfl (HOwn.out.alloc _) ⟨wr.heap.size, 0, none⟩ 1 1 [.int .i64 (256 * y + (k : Int))] rfl rfl (cell_one_new _ _ _) (by intro u hu; simp at hu; subst hu; rfl) (by unfold maxLen; omega) (by omega) (by simp; omega) ?_)
        intro v' w2 hown' hgrow _
        have HOwn' := Lib.hid hown'
        have HGr := Lib.hid hgrow
        clear hown' hgrow
        go_wp2
        go_roundw
        case rel =>
          have el : (allL G L (k + 1)).length = n + 1 := by rw [HA.out, List.length_append, ← HN.out]; rfl
          refine ⟨k + 1, by omega, by go_num, ?_, grownD_below HOwn.out (Nat.le_refl _) HB.out hsz HGr.out⟩
          rw [el]
          unfold OwnD
          rw [HA.out, List.map_append]
          have hv : nm (G k) k = 256 * y + (k : Int) := by rw [HY.out]; rfl
          rw [hv]
          exact HOwn'.out
        case measure => simp [intOf] <;> omega
      · have hL' : L k = false := by simpa using hL
        rw [hL'] at cl
        have HA := Lib.hid (all_no (G := G) hL')
        clear hL hL'
        go_wp2
        go_roundw
        case rel => exact ⟨k + 1, by omega, by go_num, by rw [HA.out]; exact HOwn.out, HB.out⟩
        case measure => simp [intOf] <;> omega
    · obtain rfl : k = 256 := by omega
      obtain ⟨a, cap, rfl, hr⟩ := HOwn.out.row
      have HA := Lib.hid hr
      clear hr
      go_wp2
      go_ret
      exact ⟨a, cap, rfl, HA.out, HB.out⟩

theorem rinfo : (Tryz.prog.info? 140).map (fun i => (i.zero, i.size, i.bytes)) = some (some (.agg (rcells (0, zT)).toArray), 25, 200) := by kernel_rfl
theorem run_append_no {t ty e : TypeId} {i : TypeInfo} {h0 : Nat} {w : World} (ht : Tryz.prog.underlying t = some (.slice e)) (hi : Tryz.prog.info? e = some i) : (Builtin.append_ #[t, t] ty #[.slice (some ⟨h0, 0, none⟩) 0 0, .slice none 0 0]).run Tryz.prog w = .ok (.slice (some ⟨h0, 0, none⟩) 0 0) w := by
  simp [Builtin.append_, run_underlying ht, sizeOf, typeInfo, hi, Builtin.lenOf, Builtin.firstCells, loadCells, loadCellsFrom, storeCells]
theorem wpList_copyC {ops : Array Oper} {rest : List Oper} {op : Oper} {a : Go.Act} {w : World} {Q : Exit → Go.Act → World → Prop} (hgd : op.guard = none) (ts tb : Operand) (t e : TypeId) (k by_ : Nat) (z : Value) (c : Int × PT → List Value)
    (ho : op.op = .call { callee := .builtin .append, args := #[ts, tb], argTypes := #[t, t] }) (hu : Tryz.prog.underlying t = some (.slice e))
    (hinfo : (Tryz.prog.info? e).map (fun i => (i.zero, i.size, i.bytes)) = some (some z, k, by_)) (hzs : z.cells.size = k) (hk : 0 < k) (hby : by_ ≤ 1000) (hc : ∀ x, (c x).length = k) (hone : ∀ x, ∀ u ∈ c x, u.oneCell' = true)
    (h0 : Nat) (hs : a.eval ts = .slice (some ⟨h0, 0, none⟩) 0 0) (hb0 : Blk w h0 e #[]) (v : Value) (X : TR) (hx : a.eval tb = v) (hcol : ColX w e k c v X) (hX : X.length ≤ 2000)
    (h : ∀ v' w', ColX w' e k c v' X → w.grownBy w' (some h0) → (∀ b, v'.ownBlock = some b → b = h0 ∨ w.heap.size ≤ b) → wpList Tryz.prog ops Q rest (a.put op.dst v') w') : wpList Tryz.prog ops Q (op :: rest) a w := by
  obtain ⟨i0, hi0, hz0, hz1, hz2⟩ := info_parts hinfo
  have hown : w.ownsRow 0 e k (.slice (some ⟨h0, 0, none⟩) 0 0) 0 [] := ⟨by simp, Or.inr ⟨h0, 0, #[], rfl, Nat.zero_le _, hb0, Nat.le_refl _, Nat.zero_le _, by simp, by simp⟩⟩
  rcases hcol.2 with ⟨rfl, hn⟩ | ⟨g, cap, cur, rfl, hb, hg, hnc, hm, hsz, htk⟩
  · have hXn : X = [] := List.eq_nil_of_length_eq_zero hn
    subst hXn
    have h2 := h (.slice (some ⟨h0, 0, none⟩) 0 0) w hown ⟨rfl, rfl, rfl, Nat.le_refl _, fun _ _ _ => rfl⟩ (fun b e => Or.inl (by simpa [Value.ownBlock] using e.symm))
    refine wpList_plain hgd fun K hK => ?_
    have h3 := hK _ _ h2
    have hr := run_append_no (ty := op.type) (h0 := h0) (w := w) hu hi0
    unfold Oper.wp execOp
    simp only [ho, resolve, invoke, builtin, Sem.run_bind, Sem.run_pure, Result.andThen_ok, List.map_toArray, List.map_cons, List.map_nil, hs, hx, hr]
    exact h3
  · have hbytes : (0 + X.length) * by_ ≤ 140737488355328 := by
      have : (0 + X.length) * by_ ≤ 2000 * 1000 := Nat.mul_le_mul (by omega) hby
      omega
    refine wpList_append_own_at w hgd ts tb t ho 0 e i0 z k by_ hu hi0 hz0 hz1 hz2 hzs hk (.slice (some ⟨h0, 0, none⟩) 0 0) 0 [] hs hown ⟨g, 0, none⟩ X.length cap (X.flatMap c) hx (flat_len hc X) (World.ownsRow.cells hcol rfl) (fun u hu' => by
      obtain ⟨x, _, hx'⟩ := List.mem_flatMap.1 hu'
      exact hone x u hx') (by unfold maxLen; omega) hbytes (Nat.zero_le _) ?_
    intro v' w' h1 h2 _ h4
    refine h v' w' ?_ h2 (fun b e => ?_)
    · rw [Nat.zero_add, List.nil_append] at h1
      exact h1
    · rcases h4 with h4 | h4
      · rw [h4] at e; exact Or.inl (by simpa [Value.ownBlock] using e.symm)
      · rw [h4] at e; exact Or.inr (by injection e with e; omega)

def upv (f : Nat → Value) (i : Nat) (v : Value) (j : Nat) : Value := if j = i then v else f j
theorem rone (x : Int × PT) : ∀ u ∈ rcells x, u.oneCell' = true := one_all (rcells_one x)
abbrev ColR (w : World) (v : Value) (R : TR) : Prop := ColX w 140 25 rcells v R
structure TV (w : World) (g o : Nat) (t : TypeId) (N : Nat) (f : Nat → Value) (s : Int) (v : Value) (R : TR) : Prop where
  row : w.rowIs g t N f
  inN : o + 1 < N
  set : f o = .int .i64 s
  val : f (o + 1) = v
  col : ColR w v R
  off : v.ownBlock ≠ some g
  len : R.length ≤ 1000
theorem TV.keep {w w' : World} {g o : Nat} {t : TypeId} {N : Nat} {f : Nat → Value} {s : Int} {v : Value} {R : TR} (h : TV w g o t N f s v R) (hb : Below w.heap.size w w') : TV w' g o t N f s v R :=
  ⟨h.row.of_block (hb.block g h.row.lt), h.inN, h.set, h.val, h.col.same (fun b e => hb.block b (World.ownsRow.lt h.col b e).2), h.off, h.len⟩
def TU (w w' : World) (g o : Nat) (t : TypeId) (N : Nat) (f : Nat → Value) (R : TR) : Prop := ∃ v, w'.rowIs g t N (upv f (o + 1) v) ∧ ColR w' v R ∧ (∀ b, v.ownBlock = some b → b ≠ g ∧ (f (o + 1) = v ∨ w.heap.size ≤ b)) ∧ w.grownBy w' (some g)
theorem TU.same {w w' : World} {g o : Nat} {t : TypeId} {N : Nat} {f : Nat → Value} {s : Int} {v : Value} {R : TR} (h : TV w g o t N f s v R) (hb : Below w.heap.size w w') : TU w w' g o t N f R :=
  ⟨v, (h.keep hb).row.congr (fun i _ => by unfold upv; by_cases c : i = o + 1; rw [if_pos c, c, h.val]; rw [if_neg c]), (h.keep hb).col, fun b e => ⟨fun c => h.off (c ▸ e), Or.inl h.val⟩, ⟨hb.os, hb.tape, hb.output, hb.size, fun k hk _ => hb.block k hk⟩⟩

set_option maxHeartbeats 2000000 in
set_option maxRecDepth 100000 in
theorem rfind_any {w : World} {g o : Nat} {t : TypeId} {N : Nat} {f : Nat → Value} {s : Int} {v : Value} {R : TR} (h : TV w g o t N f s v R) (id : Int) :
    Calls Tryz.prog 115 #[.pointer (some ⟨g, o, none⟩), .int .i64 id] w fun e w' => e = .returned (.int .i64 (findI R id)) ∧ w = w' := by
  have c1 : w.cell? ⟨g, o + 1, none⟩ = some v := by rw [h.row.cell h.inN, h.val]
  have hg := h.row.lt
  obtain ⟨a, cap, hv, hcap, hmax⟩ := h.col.form
  have HX := Lib.hid h.col
  have hX := h.len
  rw [hv] at c1 HX
  obtain ⟨n, hn⟩ : ∃ n, n = R.length := ⟨_, rfl⟩
  rw [← hn] at hX hcap HX c1
  have HN := Lib.hid hn
  clear h hn hv
  go_enter Tryz.func115, Tryz.ntmps115
  go_wp2
  go_loopw [5] (fun i wr => ∃ j : Nat, j ≤ n ∧ i = .int .i64 j ∧ (∀ q, q < j → (R.getD q d0).1 ≠ id) ∧ wr = w) (fun i _ => n - (intOf i).toNat)
  case atStart => exact ⟨0, by omega, rfl, fun q hq => by omega, rfl⟩
  case round =>
    obtain ⟨j, hj, rfl, hz, rfl⟩ := hrel
    have HZ := Lib.hid hz
    clear hz
    by_cases hlt : j < n
    · obtain ⟨b, cap', cur, hv, hbk, _⟩ := HX.out.open_ (by rw [← HN.out]; omega)
      injection hv with h1 h2 h3
      subst h1
      have c0 : wr.cell? ⟨b, j * 25, none⟩ = some (.int .i64 (R.getD j d0).1) := (ColX.range (c := rcells) (k := 25) (fun _ => rfl) HX.out (getD_at (i := j) (by rw [← HN.out]; omega))) 0 _ rfl
      have hb := hbk.lt
      have j0 : (0 : Int) ≤ (j : Int) := by omega
      have j1 : (j : Int) < (n : Int) := by omega
      clear hbk h2 h3
      obtain ⟨y, hy⟩ : ∃ y, y = (R.getD j d0).1 := ⟨_, rfl⟩
      rw [← hy] at c0
      have HY := Lib.hid hy
      clear hy
      by_cases he : y = id
      · have he' : (y == id) = true := by simpa using he
        have HE := Lib.hid he
        clear he
        go_wp2
        go_ret
        exact ⟨by rw [find_yes (by rw [← HN.out]; exact hlt) HZ.out (by rw [← HY.out, HE.out])]; rfl, rfl⟩
      · have he' : (y == id) = false := by simpa using he
        have HE := Lib.hid he
        clear he
        go_wp2
        go_roundw
        case rel => exact ⟨j + 1, by omega, by go_num, fun q hq => by
          rcases Nat.lt_succ_iff_lt_or_eq.1 hq with c | c
          · exact HZ.out q c
          · rw [c, ← HY.out]; exact HE.out, by trivial⟩
        case measure => simp [intOf] <;> omega
    · obtain rfl : j = n := by omega
      have j1 : ¬ (j : Int) < (j : Int) := by omega
      go_wp2
      go_ret
      exact ⟨by rw [find_no (by rw [← HN.out]; exact Nat.le_refl _) HZ.out]; rfl, rfl⟩

set_option maxHeartbeats 2000000 in
set_option maxRecDepth 100000 in
theorem rfits_any {w : World} {g o : Nat} {t : TypeId} {N : Nat} {f : Nat → Value} {s : Int} {v : Value} {R : TR} (h : TV w g o t N f s v R) (P : PT) {b : Bool} (hb : fitsB s P = b) :
    Calls Tryz.prog 140 #[.pointer (some ⟨g, o, none⟩), .agg (pl P).toArray] w fun e w' => e = .returned (.bool b) ∧ Below w.heap.size w w' := by
  subst hb
  unfold fitsB
  obtain ⟨r, hr⟩ : ∃ r, rightT P = r := ⟨_, rfl⟩
  have HRc : Hid (∀ w, Calls Tryz.prog 108 #[.agg (pl P).toArray] w fun e w' => e = .returned (.bool r) ∧ Below w.heap.size w w') := Lib.hid (fun w => rrightT hr w)
  rw [hr]
  have cg : w.cell? ⟨g, o, none⟩ = some (.int .i64 s) := by rw [h.row.cell (Nat.lt_of_succ_lt h.inN), h.set]
  have CG : Hid (∀ u, Below w.heap.size w u → u.cell? ⟨g, o, none⟩ = some (.int .i64 s)) := Lib.hid (fun u k => cell_keep cg k)
  have HSz := Lib.hid (pl_size P)
  have HC : Hid (∀ u g, Blk u g 43 (pl P).toArray → u.cell? ⟨g, 0, none⟩ = some (.int .i64 P.1)) := Lib.hid (fun u g k => k.cell 0)
  obtain ⟨Xp, hXp⟩ : ∃ Xp, Xp = pl P := ⟨_, rfl⟩
  rw [← hXp] at HSz HC HRc
  rw [← hXp]
  obtain ⟨hh, hhh⟩ : ∃ hh, hh = P.1 := ⟨_, rfl⟩
  rw [← hhh] at HC ⊢
  have KP := Lib.hid (Blk.new w 43 Xp.toArray)
  have HB : Hid (Below w.heap.size w (w.alloc (.cells Xp.toArray 43))) := Lib.hid (alloc_below _ _)
  clear hXp hr hhh h cg
  go_enter Tryz.func140, Tryz.ntmps140
  go_wp2_with (refine wpList_load_mid rfl 43 (.tmp 3) rfl w.heap.size 0 rfl Xp _ (blk_whole KP.out) Tryz.underlying43 rfl HSz.out ?_)
  refine (HRc.out _).mono ?_
  rintro e w1 ⟨rfl, b1⟩
  replace KP := Lib.hid (Blk.keep KP.out b1)
  replace HB := Lib.hid (bthen HB.out b1)
  clear b1 HRc
  go_upto_region 2 with fail
  refine fin (fun W => Blk W w.heap.size 43 Xp.toArray ∧ Below w.heap.size w W) ⟨KP.out, HB.out⟩ ?_
  rintro W ⟨kp, hb⟩
  replace KP := Lib.hid (Blk.drew kp)
  replace HB : Hid (Below w.heap.size w W.drew) := Lib.hid ⟨hb.os, hb.tape, hb.output, hb.size, hb.block⟩
  clear kp hb
  cases r with
  | true =>
    refine wp_region_held_drew (S := fun w' => w'.cell? ⟨w.heap.size, 0, none⟩ = some (.int .i64 hh) ∧ w'.cell? ⟨g, o, none⟩ = some (.int .i64 s)) (by kernel_rfl) (⟨HC.out _ _ KP.out, CG.out _ HB.out⟩) (fun hHeld => ?_)
    refine tk 0 hHeld ?_
    refine tk 1 hHeld ?_
    refine tk 2 hHeld ?_
    refine tk 3 hHeld ?_
    refine tk 4 hHeld ?_
    refine tk 5 hHeld ?_
    refine tk 6 hHeld ?_
    refine tk 7 hHeld ?_
    refine tk 8 hHeld ?_
    refine tk 9 hHeld ?_
    refine tk 10 hHeld ?_
    refine wpAnyH_done (by kernel_rfl) ?_ _
    clear hHeld
    go_wp2
    go_ret
    exact ⟨by simp, HB.out⟩
  | false =>
    refine wp_region_held_drew (S := fun w' => w'.cell? ⟨w.heap.size, 0, none⟩ = some (.int .i64 hh) ∧ w'.cell? ⟨g, o, none⟩ = some (.int .i64 s)) (by kernel_rfl) (⟨HC.out _ _ KP.out, CG.out _ HB.out⟩) (fun hHeld => ?_)
    refine tk 0 hHeld ?_
    refine tk 1 hHeld ?_
    refine tks 2 hHeld ?_
    refine tks 3 hHeld ?_
    refine tks 4 hHeld ?_
    refine tks 5 hHeld ?_
    refine tks 6 hHeld ?_
    refine tks 7 hHeld ?_
    refine tks 8 hHeld ?_
    refine tk 9 hHeld ?_
    refine tk 10 hHeld ?_
    refine wpAnyH_done (by kernel_rfl) ?_ _
    clear hHeld
    go_wp2
    go_ret
    exact ⟨rfl, HB.out⟩

end Go.Proofs.YtkondkajpmafkaaGreat
