/-
  PartsBits answers true for every two parts and every slice of kinds: with kinds of others and then without them, parts that may be are what they were, if they hadn't them; both may be; kinds make the same set in any order. No conditions.
-/
import Derived.Test.YtfekaolnmkikoaaRows
import Derived.Test.YtfekaolnmkikoaaPrtR
import Derived.WalkKit
import Derived.ProofKit
import Derived.OpenShut
import Derived.ShutString
import Derived.ChangeOld
import Derived.Below
import Derived.Deep.Cut
import Derived.Deep.CutRange
namespace Go.Proofs.Ytfekaolnmkikoaa.partsBits
open Go.ChangeShapes Go.WideShapes Go.ChangeAt Go.RowKit
set_option linter.unusedVariables false

theorem own : ownKnob Try.prog.godebug = none := by kernel_rfl
theorem laidOut : laidOutB Try.prog = true := by kernel_rfl

/-- what is asked of cells that are parts -/
def PX (X : List Value) : Prop := X.length = 24 ∧ (Try.prog.info? 31).map (·.size) = some X.length ∧ (Try.prog.info? 31).map (·.size) = some X.toArray.size ∧ X.toArray.all (·.oneCell') = true
theorem px (P : PT) : PX (pl P) := ⟨pl_len P, pl_size P, pl_size' P, pl_one P⟩
theorem bdrewN {n : Nat} {w a : World} (h : Below n w a) (k : Nat) : Below n w (a.drewN k) := ⟨h.os, h.tape, h.output, h.size, h.block⟩
theorem laid (w : World) {X : List Value} (h : PX X) : Below w.heap.size w ((w.alloc (.cells (pl zT).toArray 31)).setCells w.heap.size 0 X) ∧ Blk ((w.alloc (.cells (pl zT).toArray 31)).setCells w.heap.size 0 X) w.heap.size 31 X.toArray :=
  ⟨below_setCells X (alloc_below _ _) (Nat.le_refl _), blk_store (Blk.new w 31 (pl zT).toArray) h.1⟩
theorem there_new (w : World) {X : List Value} (h : PX X) : (w.alloc (.cells (pl zT).toArray 31)).there w.heap.size 0 X.toArray.size := blk_there (Blk.new w 31 (pl zT).toArray) (by rw [List.size_toArray, h.1]; exact Nat.le_refl 24)
theorem own_alloc {w : World} {b n : Nat} {v : Value} {zs : List Int} (h : OwnK w b v n zs) (o : Obj) : OwnK (w.alloc o) b v n zs := World.ownsRow.alloc h o
theorem own_drew {w : World} {b n : Nat} {v : Value} {zs : List Int} (h : OwnK w b v n zs) : OwnK w.drew b v n zs := h
theorem has_one (s x : Int) : hasAll s [x] = hasB s x := by unfold hasAll; simp
theorem none_drop {s : Int} {ks : List Int} {m : Nat} {x : Int} (h : ks[m]? = some x) : noneB s (ks.drop m) = (!hasB s x && noneB s (ks.drop (m + 1))) := by
  have hm := (List.getElem?_eq_some_iff.1 h).1
  have e := (List.getElem?_eq_some_iff.1 h).2
  rw [List.drop_eq_getElem_cons hm, e]
  rfl
theorem rev_drop {ks : List Int} {m : Nat} {x : Int} (h : ks[m]? = some x) : (ks.drop m).reverse = (ks.drop (m + 1)).reverse ++ [x] := by
  have hm := (List.getElem?_eq_some_iff.1 h).1
  have e := (List.getElem?_eq_some_iff.1 h).2
  rw [List.drop_eq_getElem_cons hm, e, List.reverse_cons]

set_option maxHeartbeats 1000000 in
set_option maxRecDepth 100000 in
theorem walk_many (XX Xp : List Value) (a : Option Addr) (len cap : Nat) (w : World) (h : 60 < len) (hbig : len ≤ 9223372036854775807) (hp : (XX.drop 0).take 24 = Xp) (xp : PX Xp) :
    Calls Try.prog 4 #[.agg XX.toArray, .slice a len cap] w fun e w' => e = .returned (.bool true) ∧ Below w.heap.size w w' := by
  have HXP := Lib.hid xp
  have HP2 := Lib.hid hp
  clear xp hp
  have HR0 : Hid ((w.alloc (.cells XX.toArray 32)).rangeAt w.heap.size 0 Xp) := Lib.hid (HP2.out ▸ blk_range (Blk.new w 32 XX.toArray) 0 24)
  have HT7 : Hid (((w.alloc (.cells XX.toArray 32)).alloc (.cells (pl zT).toArray 31)).there (w.heap.size + 1) 0 Xp.toArray.size) := Lib.hid (blk_there (blkAt (Blk.new (w.alloc (.cells XX.toArray 32)) 31 (pl zT).toArray) (by simp)) (by rw [List.size_toArray, HXP.out.1]; exact Nat.le_refl 24))
  go_enter Try.func4, Try.ntmps4
  go_upto_region 2 with (first | refine wpList_load_mid rfl 31 (.tmp 17) rfl w.heap.size 0 rfl Xp _ HR0.out Try.underlying31 rfl HXP.out.2.1 ?_ | refine wpList_store_mid rfl 31 (.tmp 5) (.tmp 18) rfl (w.heap.size + 1) 0 Xp.toArray rfl rfl (HT7.out) HXP.out.2.2.1 HXP.out.2.2.2 ?_)
  refine fin (fun W => Blk W w.heap.size 32 XX.toArray ∧ Blk W (w.heap.size + 1) 31 Xp.toArray ∧ Below w.heap.size w W) ⟨blk_setFar (g' := w.heap.size + 1) _ ((Blk.new w 32 XX.toArray).alloc _) (by omega), blk_store (blkAt (Blk.new (w.alloc (.cells XX.toArray 32)) 31 (pl zT).toArray) (by simp)) HXP.out.1, below_setCells (g := w.heap.size + 1) _ (balloc (alloc_below _ _) _) (by omega)⟩ ?_
  rintro W1 ⟨k2, k5, hb⟩
  have K2 := Lib.hid k2
  have K5 := Lib.hid k5
  have HB := Lib.hid hb
  clear k2 k5 hb HR0 HT7
  go_wp2_with fail
  refine (alive6 _).mono ?_
  rintro e w1 ⟨rfl, b1⟩
  replace HB := Lib.hid (bthen HB.out b1)
  clear b1
  go_wp2
  go_ret
  exact ⟨rfl, HB.out⟩

set_option maxHeartbeats 1000000 in
set_option maxRecDepth 100000 in
theorem walk_wrong (XX Xp : List Value) (a : Option Addr) (len cap : Nat) (w : World) (h : len ≤ 60) (hp : (XX.drop 0).take 24 = Xp) (xp : PX Xp)
    (hri : ∀ w', Calls Try.prog 15 #[.agg Xp.toArray] w' fun e w'' => e = .returned (.bool false) ∧ Below w'.heap.size w' w'') :
    Calls Try.prog 4 #[.agg XX.toArray, .slice a len cap] w fun e w' => e = .returned (.bool true) ∧ Below w.heap.size w w' := by
  have HRI := Lib.hid hri
  clear hri
  have hd : decide (60 < (len : Int)) = false := by simp; omega
  have HXP := Lib.hid xp
  have HP2 := Lib.hid hp
  clear xp hp
  have HR0 : Hid ((w.alloc (.cells XX.toArray 32)).rangeAt w.heap.size 0 Xp) := Lib.hid (HP2.out ▸ blk_range (Blk.new w 32 XX.toArray) 0 24)
  have HT7 : Hid (((w.alloc (.cells XX.toArray 32)).alloc (.cells (pl zT).toArray 31)).there (w.heap.size + 1) 0 Xp.toArray.size) := Lib.hid (blk_there (blkAt (Blk.new (w.alloc (.cells XX.toArray 32)) 31 (pl zT).toArray) (by simp)) (by rw [List.size_toArray, HXP.out.1]; exact Nat.le_refl 24))
  go_enter Try.func4, Try.ntmps4
  go_upto_region 2 with (first | refine wpList_load_mid rfl 31 (.tmp 17) rfl w.heap.size 0 rfl Xp _ HR0.out Try.underlying31 rfl HXP.out.2.1 ?_ | refine wpList_store_mid rfl 31 (.tmp 5) (.tmp 18) rfl (w.heap.size + 1) 0 Xp.toArray rfl rfl (HT7.out) HXP.out.2.2.1 HXP.out.2.2.2 ?_)
  refine fin (fun W => Blk W w.heap.size 32 XX.toArray ∧ Blk W (w.heap.size + 1) 31 Xp.toArray ∧ Below w.heap.size w W) ⟨blk_setFar (g' := w.heap.size + 1) _ ((Blk.new w 32 XX.toArray).alloc _) (by omega), blk_store (blkAt (Blk.new (w.alloc (.cells XX.toArray 32)) 31 (pl zT).toArray) (by simp)) HXP.out.1, below_setCells (g := w.heap.size + 1) _ (balloc (alloc_below _ _) _) (by omega)⟩ ?_
  rintro W1 ⟨k2, k5, hb⟩
  have K2 := Lib.hid k2
  have K5 := Lib.hid k5
  have HB := Lib.hid hb
  clear k2 k5 hb HR0 HT7
  go_wp2_with (refine wpList_load_g (by rfl) 31 (.tmp 5) rfl (w.heap.size + 1) 0 rfl Xp _ (blk_whole K5.out) Try.underlying31 rfl HXP.out.2.1 ?_)
  refine (HRI.out _).mono ?_
  rintro e w1 ⟨rfl, b1⟩
  replace HB := Lib.hid (bthen HB.out b1)
  clear b1
  go_wp2_with fail
  refine (alive6 _).mono ?_
  rintro e w2 ⟨rfl, b1⟩
  replace HB := Lib.hid (bthen HB.out b1)
  clear b1
  go_wp2
  go_ret
  exact ⟨rfl, HB.out⟩

set_option maxHeartbeats 8000000 in
set_option maxRecDepth 100000 in
theorem walk_few (XX Xp Xq X1 X2 : List Value) (ph s1 va ea e1 e2 : Int) (a : Option Addr) (len cap : Nat) (ks : List Int) (w : World) (h : len ≤ 60) (row : Row w a len ks)
    (hp : (XX.drop 0).take 24 = Xp) (hq : (XX.drop 24).take 24 = Xq) (xp : PX Xp) (xq : PX Xq) (x1 : PX X1) (x2 : PX X2) (h0 : Xp[0]? = some (.int .i64 ph)) (h1 : X1[0]? = some (.int .i64 s1))
    (hri : ∀ w', Calls Try.prog 15 #[.agg Xp.toArray] w' fun e w'' => e = .returned (.bool true) ∧ Below w'.heap.size w' w'')
    (hof : ∀ w', Row w' a len ks → Calls Try.prog 6 #[.slice a len cap] w' fun e w'' => e = .returned (.tuple #[.int .i64 va, .int .i64 ea]) ∧ w' = w'')
    (hofb : ∀ w' a' c', Row w' a' len ks.reverse → Calls Try.prog 6 #[.slice a' len c'] w' fun e w'' => e = .returned (.tuple #[.int .i64 va, .int .i64 ea]) ∧ w' = w'')
    (hwi : ∀ w', Row w' a len ks → Calls Try.prog 8 #[.agg Xp.toArray, .agg Xq.toArray, .slice a len cap] w' fun e w'' => e = .returned (.tuple #[.agg X1.toArray, .int .i64 e1]) ∧ Below w'.heap.size w' w'')
    (hwo : ∀ w' a' c', Row w' a' len ks.reverse → Calls Try.prog 10 #[.agg X1.toArray, .slice a' len c'] w' fun e w'' => e = .returned (.tuple #[.agg X2.toArray, .int .i64 e2]) ∧ Below w'.heap.size w' w'')
    (hze : e1 ≠ 0 → ∀ w', (Op.equalIn 10000 31 (.agg X1.toArray) (.agg #[.int .i64 0, .int .i64 0, .int .i64 0, .int .i64 0, .int .i64 0, .int .i64 0, .int .i64 0, .int .i64 0, .int .i64 0, .int .i64 0, .int .i64 0, .int .i64 0, .int .i64 0, .int .i64 0, .int .i64 0, .int .i64 0, .int .i64 0, .int .i64 0, .int .i64 0, .int .i64 0, .int .i64 0, .int .i64 0, .bool false, .int .i64 0])).run Try.prog w' = .ok true w')
    (he2 : e1 = 0 → e2 = 0)
    (hr1 : e1 = 0 → ∀ w', Calls Try.prog 15 #[.agg X1.toArray] w' fun e w'' => e = .returned (.bool true) ∧ Below w'.heap.size w' w'')
    (hr2 : e1 = 0 → ∀ w', Calls Try.prog 15 #[.agg X2.toArray] w' fun e w'' => e = .returned (.bool true) ∧ Below w'.heap.size w' w'')
    (hha : e1 = 0 → hasAll s1 ks = true)
    (heq : e1 = 0 → noneB ph ks = true → ∀ w', (Op.equalIn 10000 31 (.agg X2.toArray) (.agg Xp.toArray)).run Try.prog w' = .ok true w') :
    Calls Try.prog 4 #[.agg XX.toArray, .slice a len cap] w fun e w' => e = .returned (.bool true) ∧ Below w.heap.size w w' := by
  have HRI := Lib.hid hri
  have HOF := Lib.hid hof
  have HOFB := Lib.hid hofb
  have HWI := Lib.hid hwi
  have HWO := Lib.hid hwo
  have HZE := Lib.hid hze
  have HE2 := Lib.hid he2
  have HR1 := Lib.hid hr1
  have HR2 := Lib.hid hr2
  have HHA := Lib.hid hha
  have HEQ := Lib.hid heq
  have HXQ := Lib.hid xq
  have HX1 := Lib.hid x1
  have HX2 := Lib.hid x2
  have HL := Lib.hid row.1
  have HRow := Lib.hid row
  have HQ2 := Lib.hid hq
  have H00 := Lib.hid h0
  have H01 := Lib.hid h1
  clear row hq h0 h1 hri hof hofb hwi hwo hze he2 hr1 hr2 hha heq xq x1 x2
  have hd : decide (60 < (len : Int)) = false := by simp; omega
  have HXP := Lib.hid xp
  have HP2 := Lib.hid hp
  clear xp hp
  have HR0 : Hid ((w.alloc (.cells XX.toArray 32)).rangeAt w.heap.size 0 Xp) := Lib.hid (HP2.out ▸ blk_range (Blk.new w 32 XX.toArray) 0 24)
  have HT7 : Hid (((w.alloc (.cells XX.toArray 32)).alloc (.cells (pl zT).toArray 31)).there (w.heap.size + 1) 0 Xp.toArray.size) := Lib.hid (blk_there (blkAt (Blk.new (w.alloc (.cells XX.toArray 32)) 31 (pl zT).toArray) (by simp)) (by rw [List.size_toArray, HXP.out.1]; exact Nat.le_refl 24))
  go_enter Try.func4, Try.ntmps4
  go_upto_region 2 with (first | refine wpList_load_mid rfl 31 (.tmp 17) rfl w.heap.size 0 rfl Xp _ HR0.out Try.underlying31 rfl HXP.out.2.1 ?_ | refine wpList_store_mid rfl 31 (.tmp 5) (.tmp 18) rfl (w.heap.size + 1) 0 Xp.toArray rfl rfl (HT7.out) HXP.out.2.2.1 HXP.out.2.2.2 ?_)
  refine fin (fun W => Blk W w.heap.size 32 XX.toArray ∧ Blk W (w.heap.size + 1) 31 Xp.toArray ∧ Below w.heap.size w W) ⟨blk_setFar (g' := w.heap.size + 1) _ ((Blk.new w 32 XX.toArray).alloc _) (by omega), blk_store (blkAt (Blk.new (w.alloc (.cells XX.toArray 32)) 31 (pl zT).toArray) (by simp)) HXP.out.1, below_setCells (g := w.heap.size + 1) _ (balloc (alloc_below _ _) _) (by omega)⟩ ?_
  rintro W1 ⟨k2, k5, hb⟩
  have K2 := Lib.hid k2
  have K5 := Lib.hid k5
  have HB := Lib.hid hb
  clear k2 k5 hb HR0 HT7
  obtain ⟨i0, hi0, hz0, hz1, hz2⟩ := info_parts kind_info
  have HI := Lib.hid (And.intro hi0 (And.intro hz0 (And.intro hz1 hz2)))
  clear hi0 hz0 hz1 hz2
  go_wp2_with (refine wpList_load_g (by rfl) 31 (.tmp 5) rfl (w.heap.size + 1) 0 rfl Xp _ (blk_whole K5.out) Try.underlying31 rfl HXP.out.2.1 ?_)
  refine (HRI.out _).mono ?_
  rintro e U ⟨rfl, b1⟩
  replace K2 := Lib.hid (K2.out.keep b1)
  replace K5 := Lib.hid (K5.out.keep b1)
  replace HB := Lib.hid (bthen HB.out b1)
  clear b1
  replace HRow := Lib.hid (row_keep HRow.out HB.out)
  go_wp2
  go_loopw [6, 7, 8] (fun v nn i wr => ∃ n : Int, -1 ≤ n ∧ n < (len : Int) ∧ i = .int .i64 n ∧ nn = .bool (noneB ph (ks.drop (n + 1).toNat)) ∧ OwnK wr U.heap.size v (len - (n + 1).toNat) (ks.drop (n + 1).toNat).reverse ∧ Below U.heap.size U wr) (fun _ _ i _ => (intOf i + 1).toNat)
  case atStart =>
    refine ⟨(len : Int) - 1, by omega, by omega, rfl, ?_, ?_, Below.refl _ _⟩
    · rw [show ((len : Int) - 1 + 1).toNat = len by omega, List.drop_of_length_le (by rw [HL.out]; exact Nat.le_refl _)]
      rfl
    · rw [show ((len : Int) - 1 + 1).toNat = len by omega, Nat.sub_self, List.drop_of_length_le (by rw [HL.out]; exact Nat.le_refl _)]
      exact OwnK.nil _ _
  case round =>
    obtain ⟨n, hn1, hn2, rfl, rfl, hown, hb⟩ := hrel
    have HOwn := Lib.hid hown
    have HZ := Lib.hid hb
    clear hown hb
    by_cases hn : 0 ≤ n
    · obtain ⟨m, rfl⟩ : ∃ m : Nat, n = (m : Int) := ⟨n.toNat, by omega⟩
      have hm : m < len := by omega
      obtain ⟨b, off, x, rfl, hv, cU⟩ := row_at6 HRow.out hm
      have c0 := cell_keep cU HZ.out
      have HV := Lib.hid (rev_drop hv)
      have HN := Lib.hid (none_drop (s := ph) hv)
      clear hv
      have HOwn1 : Hid (OwnK wr U.heap.size _ (len - (m + 1)) (ks.drop (m + 1)).reverse) := Lib.hid (by have := HOwn.out; rw [show ((m : Int) + 1).toNat = m + 1 by omega] at this; exact this)
      clear HOwn
      rw [show ((m : Int) + 1).toNat = m + 1 by omega]
      obtain ⟨nb, hnb⟩ : ∃ nb, nb = noneB ph (ks.drop (m + 1)) := ⟨_, rfl⟩
      rw [← hnb] at HN
      rw [← hnb]
      clear hnb
      have hsz : U.heap.size ≤ wr.heap.size := HZ.out.size
      go_wp2_with (at_builtin; refine wpList_append_own _ rfl (.tmp 35) (.tmp 40) 33 rfl U.heap.size 45 i0 (.int .i64 0) 1 8 Try.underlying33 HI.out.1 HI.out.2.1 HI.out.2.2.1 HI.out.2.2.2 rfl (by decide) _ _ _ rfl (HOwn1.out.alloc _) ⟨wr.heap.size, 0, none⟩ 1 1 [.int .i64 x] rfl rfl (cell_one_new _ _ _) (by intro u hu; simp at hu; subst hu; rfl) (by unfold maxLen; omega) (by omega) (by simp; omega) ?_)
      intro v' w2 hown' hgrow _
      have HZ2 := Lib.hid (grownK_below HOwn1.out (Nat.le_refl _) HZ.out hsz hgrow)
      have HOwn' : Hid (OwnK w2 U.heap.size v' (len - (m + 1) + 1) ((ks.drop (m + 1)).reverse ++ [x])) := Lib.hid (by unfold OwnK; rw [List.map_append, List.map_reverse, List.map_drop]; exact hown')
      clear hown' hgrow c0
      have c2 := cell_keep cU HZ2.out
      have cp : w2.cell? ⟨w.heap.size + 1, 0, none⟩ = some (.int .i64 ph) := by rw [(K5.out.keep HZ2.out).cell 0]; simpa using H00.out
      have hk0 : (0 : Int) ≤ (m : Int) := by omega
      have hk1 : (m : Int) < (len : Int) := by omega
      clear cU
      cases hb : hasB ph x with
      | true =>
        have HHb := Lib.hid ((has_one ph x).trans hb)
        have HRw : Hid (Row ((w2.alloc (.cells #[.int .i64 x] 45)).drew) (some ⟨w2.heap.size, 0, none⟩) 1 [x]) := Lib.hid (row1 w2 x 45)
        rw [hb] at HN
        clear hb
        go_wp2
        go_region_held3 (fun w' => w'.cell? ⟨w.heap.size + 1, 0, none⟩ = some (.int .i64 ph) ∧ w'.cell? ⟨b, off + m, none⟩ = some (.int .i64 x)) (first | exact ⟨cp, c2⟩ | go_keep)
          (first | (go_at_call 14; refine (phas_b HHb.out _ _ _ _ HRw.out).mono ?_; rintro e w6 ⟨rfl, rfl⟩))
        refine fin (fun W => OwnK W U.heap.size v' (len - (m + 1) + 1) ((ks.drop (m + 1)).reverse ++ [x]) ∧ Below U.heap.size U W) ⟨own_drew (own_alloc HOwn'.out _), bdrewn (balloc HZ2.out _)⟩ ?_
        clear HOwn' HZ2 cp c2
        rintro W3 ⟨ho, hb⟩
        have HO3 := Lib.hid ho
        have HZ3 := Lib.hid hb
        clear ho hb
        go_wp2
        go_roundw
        case rel =>
          refine ⟨(m : Int) - 1, by omega, by omega, rfl, ?_, ?_, HZ3.out⟩
          · rw [show ((m : Int) - 1 + 1).toNat = m by omega, HN.out]; rfl
          · rw [show ((m : Int) - 1 + 1).toNat = m by omega, HV.out, show len - m = len - (m + 1) + 1 by omega]; exact HO3.out
        case measure => simp [intOf]
      | false =>
        have HHb := Lib.hid ((has_one ph x).trans hb)
        have HRw : Hid (Row ((w2.alloc (.cells #[.int .i64 x] 45)).drew) (some ⟨w2.heap.size, 0, none⟩) 1 [x]) := Lib.hid (row1 w2 x 45)
        rw [hb] at HN
        clear hb
        go_wp2
        go_region_held3 (fun w' => w'.cell? ⟨w.heap.size + 1, 0, none⟩ = some (.int .i64 ph) ∧ w'.cell? ⟨b, off + m, none⟩ = some (.int .i64 x)) (first | exact ⟨cp, c2⟩ | go_keep)
          (first | (go_at_call 14; refine (phas_b HHb.out _ _ _ _ HRw.out).mono ?_; rintro e w6 ⟨rfl, rfl⟩))
        refine fin (fun W => OwnK W U.heap.size v' (len - (m + 1) + 1) ((ks.drop (m + 1)).reverse ++ [x]) ∧ Below U.heap.size U W) ⟨own_drew (own_alloc HOwn'.out _), bdrewn (balloc HZ2.out _)⟩ ?_
        clear HOwn' HZ2 cp c2
        rintro W3 ⟨ho, hb⟩
        have HO3 := Lib.hid ho
        have HZ3 := Lib.hid hb
        clear ho hb
        go_wp2
        go_roundw
        case rel =>
          refine ⟨(m : Int) - 1, by omega, by omega, rfl, ?_, ?_, HZ3.out⟩
          · rw [show ((m : Int) - 1 + 1).toNat = m by omega, HN.out]; rfl
          · rw [show ((m : Int) - 1 + 1).toNat = m by omega, HV.out, show len - m = len - (m + 1) + 1 by omega]; exact HO3.out
        case measure => simp [intOf]
    · obtain rfl : n = -1 := by omega
      have HOwn1 : Hid (OwnK wr U.heap.size _ len ks.reverse) := Lib.hid HOwn.out
      rw [show ks.drop ((-1 : Int) + 1).toNat = ks from rfl]
      obtain ⟨nb, hnb⟩ : ∃ nb, noneB ph ks = nb := ⟨_, rfl⟩
      rw [hnb]
      have HNB := Lib.hid hnb
      clear hnb HOwn
      obtain ⟨pa, pc, rfl, hprow⟩ := HOwn1.out.row
      have HPr := Lib.hid hprow
      clear hprow HOwn1 hn1 hn2 hn HI
      replace K2 := Lib.hid (K2.out.keep HZ.out)
      replace K5 := Lib.hid (K5.out.keep HZ.out)
      replace HRow := Lib.hid (row_keep HRow.out HZ.out)
      replace HB := Lib.hid (bthen HB.out HZ.out)
      clear HZ
      have HRq : Hid (wr.rangeAt w.heap.size 24 Xq) := Lib.hid (HQ2.out ▸ blk_range K2.out 24 24)
      go_wp2_with fail
      refine (HOF.out _ HRow.out).mono ?_
      rintro e y0 ⟨rfl, rfl⟩
      go_wp2_with fail
      refine (HOFB.out _ _ _ HPr.out).mono ?_
      rintro e y0 ⟨rfl, rfl⟩
      go_wp2_with (first | refine wpList_load_mid rfl 31 (.tmp 5) rfl (w.heap.size + 1) 0 rfl Xp _ (blk_whole K5.out) Try.underlying31 rfl HXP.out.2.1 ?_ | refine wpList_load_mid rfl 31 (.tmp 70) rfl w.heap.size 24 rfl Xq _ HRq.out Try.underlying31 rfl HXQ.out.2.1 ?_)
      refine (HWI.out _ HRow.out).mono ?_
      rintro e y1 ⟨rfl, b1⟩
      replace K5 := Lib.hid (K5.out.keep b1)
      replace HRow := Lib.hid (row_keep HRow.out b1)
      replace HPr := Lib.hid (row_keep HPr.out b1)
      replace HB := Lib.hid (bthen HB.out b1)
      clear b1 K2 HRq
      go_upto_region 17 with (refine wpList_store_mid rfl 31 (.tmp 13) (.tmp 74) rfl y1.heap.size 0 X1.toArray rfl rfl (there_new y1 HX1.out) HX1.out.2.2.1 HX1.out.2.2.2 ?_)
      refine fin (fun W => Blk W (w.heap.size + 1) 31 Xp.toArray ∧ Blk W y1.heap.size 31 X1.toArray ∧ Row W a len ks ∧ Row W pa len ks.reverse ∧ Below w.heap.size w W) ⟨K5.out.keep (laid y1 HX1.out).1, (laid y1 HX1.out).2, row_keep HRow.out (laid y1 HX1.out).1, row_keep HPr.out (laid y1 HX1.out).1, bthen HB.out (laid y1 HX1.out).1⟩ ?_
      clear K5 HRow HPr HB
      rintro Y1 ⟨k5, k13, hr, hpr, hb⟩
      have K5 := Lib.hid k5
      have K13 := Lib.hid k13
      have HRow := Lib.hid hr
      have HPr := Lib.hid hpr
      have HB := Lib.hid hb
      clear k5 k13 hr hpr hb
      by_cases he : e1 = 0
      · subst he
        obtain rfl : e2 = 0 := HE2.out rfl
        replace HR1 := Lib.hid (HR1.out rfl)
        replace HR2 := Lib.hid (HR2.out rfl)
        replace HHA := Lib.hid (HHA.out rfl)
        replace HEQ := Lib.hid (HEQ.out rfl)
        clear HE2 HZE
        go_wp2_with (refine wpList_load_mid rfl 31 (.tmp 13) rfl y1.heap.size 0 rfl X1 _ (blk_whole K13.out) Try.underlying31 rfl HX1.out.2.1 ?_)
        refine (HWO.out _ _ _ HPr.out).mono ?_
        rintro e y2 ⟨rfl, b1⟩
        replace K5 := Lib.hid (K5.out.keep b1)
        replace K13 := Lib.hid (K13.out.keep b1)
        replace HRow := Lib.hid (row_keep HRow.out b1)
        replace HB := Lib.hid (bthen HB.out b1)
        clear b1 HPr
        go_upto_region 20 with (refine wpList_store_mid rfl 31 (.tmp 15) (.tmp 88) rfl y2.heap.size 0 X2.toArray rfl rfl (there_new y2 HX2.out) HX2.out.2.2.1 HX2.out.2.2.2 ?_)
        refine fin (fun W => Blk W (w.heap.size + 1) 31 Xp.toArray ∧ Blk W y1.heap.size 31 X1.toArray ∧ Blk W y2.heap.size 31 X2.toArray ∧ Row W a len ks ∧ Below w.heap.size w W) ⟨K5.out.keep (laid y2 HX2.out).1, K13.out.keep (laid y2 HX2.out).1, (laid y2 HX2.out).2, row_keep HRow.out (laid y2 HX2.out).1, bthen HB.out (laid y2 HX2.out).1⟩ ?_
        clear K5 K13 HRow HB
        rintro Y2 ⟨k5, k13, k15, hr, hb⟩
        have K5 := Lib.hid k5
        have K13 := Lib.hid k13
        have K15 := Lib.hid k15
        have HRow := Lib.hid hr
        have HB := Lib.hid hb
        clear k5 k13 k15 hr hb
        go_wp2_with fail
        refine (alive6 _).mono ?_
        rintro e y3 ⟨rfl, b1⟩
        replace K5 := Lib.hid (K5.out.keep b1)
        replace K13 := Lib.hid (K13.out.keep b1)
        replace K15 := Lib.hid (K15.out.keep b1)
        replace HRow := Lib.hid (row_keep HRow.out b1)
        replace HB := Lib.hid (bthen HB.out b1)
        clear b1
        go_wp2_with (refine wpList_load_g (by rfl) 31 (.tmp 13) rfl y1.heap.size 0 rfl X1 _ (blk_whole K13.out) Try.underlying31 rfl HX1.out.2.1 ?_)
        refine (HR1.out _).mono ?_
        rintro e y4 ⟨rfl, b1⟩
        replace K5 := Lib.hid (K5.out.keep b1)
        replace K13 := Lib.hid (K13.out.keep b1)
        replace K15 := Lib.hid (K15.out.keep b1)
        replace HRow := Lib.hid (row_keep HRow.out b1)
        replace HB := Lib.hid (bthen HB.out b1)
        clear b1
        go_wp2_with (refine wpList_load_g (by rfl) 31 (.tmp 15) rfl y2.heap.size 0 rfl X2 _ (blk_whole K15.out) Try.underlying31 rfl HX2.out.2.1 ?_)
        refine (HR2.out _).mono ?_
        rintro e y5 ⟨rfl, b1⟩
        replace K5 := Lib.hid (K5.out.keep b1)
        replace K13 := Lib.hid (K13.out.keep b1)
        replace K15 := Lib.hid (K15.out.keep b1)
        replace HRow := Lib.hid (row_keep HRow.out b1)
        replace HB := Lib.hid (bthen HB.out b1)
        clear b1
        have c13 : y5.cell? ⟨y1.heap.size, 0, none⟩ = some (.int .i64 s1) := by rw [K13.out.cell 0]; simpa using H01.out
        have z13 := K13.out.lt
        go_wp2_with fail
        refine (phas_b HHA.out _ _ _ _ HRow.out).mono ?_
        rintro e y6 ⟨rfl, rfl⟩
        clear c13 z13
        cases nb with
        | false =>
          go_wp2
          go_ret
          exact ⟨rfl, HB.out⟩
        | true =>
          have hq := HEQ.out HNB.out
          go_wp2_with (first | refine wpList_load_g (by rfl) 31 (.tmp 15) rfl y2.heap.size 0 rfl X2 _ (blk_whole K15.out) Try.underlying31 rfl HX2.out.2.1 ?_ | refine wpList_load_g (by rfl) 31 (.tmp 5) rfl (w.heap.size + 1) 0 rfl Xp _ (blk_whole K5.out) Try.underlying31 rfl HXP.out.2.1 ?_)
          go_ret
          exact ⟨rfl, HB.out⟩
      · have g1 : (e1 != 0) = true := by simpa using he
        have hq := HZE.out he
        clear he
        go_wp2_with fail
        refine (alive6 _).mono ?_
        rintro e y3 ⟨rfl, b1⟩
        replace K13 := Lib.hid (K13.out.keep b1)
        replace HB := Lib.hid (bthen HB.out b1)
        clear b1
        go_wp2_with (refine wpList_load_g (by rfl) 31 (.tmp 13) rfl y1.heap.size 0 rfl X1 _ (blk_whole K13.out) Try.underlying31 rfl HX1.out.2.1 ?_)
        go_ret
        exact ⟨rfl, HB.out⟩

theorem walk (P Q : PT) (a : Option Addr) (len cap : Nat) (ks : List Int) (w : World) (row : Row w a len ks) :
    Calls Try.prog 4 #[.agg (pl P ++ pl Q).toArray, .slice a len cap] w fun e w' => e = .returned (.bool true) ∧ Below w.heap.size w w' := by
  by_cases h : 60 < len
  · exact walk_many _ (pl P) a len cap w h row.2.1 rfl (px P)
  · cases hr : rightT P with
    | false => exact walk_wrong _ (pl P) a len cap w (by omega) rfl (px P) (fun w' => prightT hr w')
    | true =>
      have hyes : withE P Q ks = 0 → withOk P Q ks = true := fun h0 => by
        cases c : withOk P Q ks with
        | true => rfl
        | false => rw [(with_no c).1] at h0; cases h0
      have hv : withE P Q ks = 0 → withV P Q ks = withT P Q ks := fun h0 => (with_yes (hyes h0)).2
      have hx : withE P Q ks = 0 → rightT (withT P Q ks) = true ∧ ksOk ks = true := fun h0 => by
        have c := hyes h0
        unfold withOk at c
        rw [Bool.and_eq_true, Bool.and_eq_true] at c
        exact ⟨right_with ks hr c.1.2 c.2, hasAll_ok c.2⟩
      have ho : withE P Q ks = 0 → woutOk (withV P Q ks) ks.reverse = true := fun h0 => by
        unfold woutOk
        rw [hv h0, (hx h0).1, ksOk_rev, (hx h0).2]
        rfl
      have hvo : withE P Q ks = 0 → woutV (withV P Q ks) ks.reverse = woutT (withT P Q ks) ks.reverse := fun h0 => by rw [(wout_yes (ho h0)).2, hv h0]
      exact walk_few (pl P ++ pl Q) (pl P) (pl Q) (pl (withV P Q ks)) (pl (woutV (withV P Q ks) ks.reverse)) P.1 (withV P Q ks).1 (ksV ks) (ksE ks) (withE P Q ks) (woutE (withV P Q ks) ks.reverse) a len cap ks w (by omega) row rfl rfl (px P) (px Q) (px _) (px _) rfl rfl
        (fun w' => prightT hr w') (fun w' r => pof_any a len cap ks w' r) (fun w' a' c' r => by have := pof_any a' len c' ks.reverse w' r; rw [ksV_rev, ksE_rev] at this; exact this) (fun w' r => pwith_any P Q a len cap ks w' r) (fun w' a' c' r => pwoutT _ a' len c' ks.reverse w' r)
        (fun hne w' => by
          have c : withOk P Q ks = false := by
            cases c : withOk P Q ks with
            | false => rfl
            | true => exact absurd (with_yes c).1 hne
          rw [(with_no c).2]
          have := eqT_run zT zT w'
          rw [eqT_self] at this
          exact this)
        (fun h0 => (wout_yes (ho h0)).1) (fun h0 w' => by rw [hv h0]; exact prightT (hx h0).1 w')
        (fun h0 w' => by rw [hvo h0]; exact prightT (right_wout ks.reverse (hx h0).1 (by rw [ksOk_rev]; exact (hx h0).2)) w')
        (fun h0 => by rw [hv h0]; exact with_all (right_bound hr) (hx h0).2)
        (fun h0 hn w' => by
          rw [hvo h0]
          have e := pl_eqT (back_same (hyes h0) hn)
          have := eqT_run (woutT (withT P Q ks) ks.reverse) P w'
          rw [e] at this
          exact this)

theorem open_row {H : Type} {enc : TypeId × Value → H} {w : World} {base : Nat} {held : Bool} {fuel : Nat} {a : Option Addr} {len cap : Nat} {x : DataW H × List MemPlace}
    (h : DataW.trod enc Try.prog w base (fun _ => true) held fuel 33 [.slice a len cap] = some x) : ∃ zs, Row w a len zs := by
  rcases open_ints Try.underlying33 Try.underlying45 (by kernel_rfl) h with ⟨hcs, _⟩ | ⟨ad, l, c, zs, hcs, _, hl, hm, hz, _, hcell, hwz⟩
  · simp at hcs
    obtain ⟨rfl, rfl, rfl⟩ := hcs
    exact ⟨[], rfl, by omega, .inl rfl⟩
  · simp at hcs
    obtain ⟨rfl, rfl, rfl⟩ := hcs
    unfold maxLen at hm
    simp only [if_true] at hz
    refine ⟨zs.take len, by rw [List.length_take]; omega, by omega, ?_⟩
    by_cases h0 : len = 0
    · exact .inl h0
    · obtain ⟨b, off, spot⟩ := ad
      have hspot : spot = none := by simpa [Addr.add] using World.cell?_spot (hcell 0 (by omega))
      subst hspot
      refine .inr ⟨b, off, rfl, fun i hi => ?_⟩
      have := hcell i (by omega)
      rw [Addr.add_mid] at this
      rw [this]
      simp [hi]

set_option maxRecDepth 100000 in
theorem lifted (os : Os) (started : os.Started) (H : Type) (enc : TypeId × Value → H) :
    ReturnsInHanded {} Try.checked os 4 .any (Rows.partsBitsSpec.pre6 enc Try.prog Try.f4 Rows.partsBitsRow.domain false) (Rows.partsBitsSpec.post enc Try.prog Try.f4 false true false false) := by
  refine returnsInHanded_of_change (C := Try.checked) own started (by kernel_rfl) Try.func4
    (ChangeSpec.witness6 (enc := enc) (C := Try.checked) false ⟨#[], #[.agg (pl zT ++ pl zT).toArray, .slice none 0 0], []⟩ 8 (by kernel_rfl) (by kernel_rfl) (by kernel_rfl) (by kernel_rfl)) ?_
  intro W base args ds gs before hval0 hW hcnd _
  have hval : ∀ (j : Nat) t v, Try.f4.params[j]? = some t → args[j]? = some v → Value.okWide Try.prog W .any base t v := hval0
  have hW' := hW
  obtain ⟨p, q, hA0, hV, rfl, hfz, hnd⟩ := hW
  have hA : DataW.TrodAll enc Try.prog W 0 (fun _ => true) true Try.f4.params.toList args.toList ds p := hA0
  rw [Try.params4] at hA hval
  obtain ⟨v0, vs0, d0, ds0, p0, q0, hargs, rfl, rfl, h0, r0⟩ := trodAll_cons hA
  obtain ⟨v1, vs1, d1, ds1, p1, q1, rfl, rfl, rfl, h1, r1⟩ := trodAll_cons r0
  obtain ⟨rfl, rfl, rfl⟩ := trodAll_nil r1
  obtain rfl : args = #[v0, v1] := by cases args; simp_all
  obtain ⟨rfl, rfl⟩ := trodVars_none hV
  have k0 := h0
  have lt0 : ∀ x ∈ p0, x.block < W.heap.size := by obtain ⟨m, hm⟩ := k0; exact DataW.trod_lt m _ _ _ hm
  obtain ⟨P, Q, rfl⟩ := open_parts2 (hval 0 32 v0 rfl rfl) h0
  obtain ⟨a1, len1, cap1, rfl⟩ := okWide_slice Try.underlying33 (hval 1 33 v1 rfl rfl)
  have k1 := h1
  have lt1 : ∀ x ∈ p1, x.block < W.heap.size := by obtain ⟨m, hm⟩ := k1; exact DataW.trod_lt m _ _ _ hm
  obtain ⟨zs, row⟩ : ∃ zs, Row W a1 len1 zs := by
    obtain ⟨fuel, hf⟩ := h1
    exact open_row (by simpa [Value.cells] using hf)
  clear hA0 hval0
  refine (walk P Q a1 len1 cap1 zs W row).mono fun e W' ⟨he, bel⟩ => ?_
  subst he
  exact ⟨_, rfl, _, _, _, [], _, [], hW', trodAll_mk1 (shut_bool Try.underlying4 _), (trodAll_cons_mk (Below.trod laidOut (by kernel_rfl) (of_decide_eq_true (by kernel_rfl)) k0 bel lt0) (trodAll_cons_mk (Below.trod laidOut (by kernel_rfl) (of_decide_eq_true (by kernel_rfl)) k1 bel lt1) trodAll_mk0)), rfl, bel.frame _, fun h => by cases h⟩

theorem over : Rows.partsBitsRow.holds Try.pinned (OpenSpec.ofChange Rows.partsBitsSpec) :=
  OpenClaim.holds_of_wide 4 Try.f4 rfl rfl rfl rfl rfl rfl rfl ⟨rfl, rfl, rfl, rfl, rfl⟩ rfl rfl rfl rfl rfl (by kernel_rfl) Try.func4 (by kernel_rfl)
    (of_decide_eq_true (by kernel_rfl)) (by unfold Func.isWrapper; first | (rw [if_pos (by decide +kernel)]; kernel_rfl) | (rw [if_neg (by decide +kernel)]; exact ⟨rfl, rfl⟩))
    (fun os started H enc _ => lifted os started H enc)

end Go.Proofs.Ytfekaolnmkikoaa.partsBits
namespace Go.Proofs.Ytfekaolnmkikoaa
theorem partsBits_holds : Rows.PartsBitsSaid := partsBits.over
#print axioms partsBits_holds
end Go.Proofs.Ytfekaolnmkikoaa
