/-
  2 texts in one file, each with its own heading.
-/
import Derived.Test.YtffbehcbokmpkaaML11
import Derived.Deep.QuietTactic
import Derived.Maps.AppendAt
import Derived.Test.YtffbehcbokmpkaaML18
/-
  What the reference's All, Same and Has of layer 5 answer.
-/
namespace Go.Proofs.Ytffbehcbokmpkaa
open Go.RowKit

theorem row_at {w : World} {a : Option Addr} {len : Nat} {zs : List Int} (h : Row w a len zs) {k : Nat} (hk : k < len) : ∃ b off x, a = some ⟨b, off, none⟩ ∧ zs[k]? = some x ∧ w.cell? ⟨b, off + k, none⟩ = some (.int .i64 x) := by
  obtain ⟨h1, h2, h3⟩ := h
  rcases h3 with h3 | ⟨b, off, rfl, hc⟩
  · omega
  · have hk' : k < zs.length := by omega
    have c := hc k hk
    rw [show zs.getD k 0 = zs[k] by simp [List.getD, List.getElem?_eq_getElem hk']] at c
    exact ⟨b, off, _, rfl, List.getElem?_eq_getElem hk', c⟩

set_option maxHeartbeats 1000000 in
theorem plhas_any (a : Option Addr) (len cap : Nat) (zs : List Int) (x : Int) (w : World) (row : Row w a len zs) :
    Calls Try.prog 29 #[.slice a len cap, .int .i64 x] w fun e w' => e = .returned (.bool (decide (x ∈ zs))) ∧ w = w' := by
  have HL := Lib.hid row.1
  have hbig := row.2.1
  have HRow := Lib.hid row
  clear row
  go_enter Try.func29, Try.ntmps29
  go_wp2
  go_loopw [5] (fun i wr => ∃ k : Nat, k ≤ len ∧ i = .int .i64 k ∧ (x ∉ zs.take k) ∧ wr = w) (fun i _ => len - (intOf i).toNat)
  case atStart => exact ⟨0, by omega, rfl, by simp, rfl⟩
  case round =>
    obtain ⟨k, hk, rfl, hz, rfl⟩ := hrel
    have HZ := Lib.hid hz
    clear hz
    by_cases hlt : k < len
    · obtain ⟨b, off, y, rfl, hv, c0⟩ := row_at HRow.out hlt
      have HV := Lib.hid hv
      clear hv
      have hk0 : (0 : Int) ≤ (k : Int) := by omega
      have hk1 : (k : Int) < (len : Int) := by omega
      by_cases he : y = x
      · have ge : (y == x) = true := by rw [he]; simp
        have HE := Lib.hid he
        clear he
        go_wp2
        go_ret
        exact ⟨by rw [show decide (x ∈ zs) = true by rw [← HE.out]; simpa using List.mem_of_getElem? HV.out]; rfl, rfl⟩
      · have ge : (y == x) = false := by simpa using he
        have HE := Lib.hid (show x ∉ zs.take (k + 1) by
          rw [List.take_add_one, HV.out]
          simp only [Option.toList_some, List.mem_append, List.mem_singleton, not_or]
          exact ⟨HZ.out, fun e => he e.symm⟩)
        clear he
        go_wp2
        go_roundw
        case rel => exact ⟨k + 1, by omega, by go_num, HE.out, by trivial⟩
        case measure => simp [intOf] <;> omega
    · obtain rfl : k = len := by omega
      have e1 := HZ.out
      rw [List.take_of_length_le (by rw [HL.out]; exact Nat.le_refl _)] at e1
      have HE := Lib.hid e1
      clear e1
      go_wp2
      go_ret
      exact ⟨by rw [show decide (x ∈ zs) = false by simpa using HE.out]; rfl, rfl⟩

def slen : Value → Nat
  | .slice _ n _ => n
  | _ => 0
theorem bs_rc1 (x : Rc) (W : World) : (Instr.buildSlice 46 1 #[(0, .agg (cRc x).toArray)]).run Try.prog W = .ok (.slice (some ⟨W.heap.size, 0, none⟩) 1 1) (W.alloc (.cells (cRc x).toArray 36)) := by kernel_rfl
theorem bs_rc2 (x y : Rc) (W : World) : (Instr.buildSlice 46 2 #[(0, .agg (cRc x).toArray), (1, .agg (cRc y).toArray)]).run Try.prog W = .ok (.slice (some ⟨W.heap.size, 0, none⟩) 2 2) (W.alloc (.cells (cRc x ++ cRc y).toArray 36)) := by kernel_rfl
theorem wpList_bsR1 {ops : Array Oper} {rest : List Oper} {op : Oper} {a : Go.Act} {w : World} {Q : Exit → Go.Act → World → Prop} (hgd : op.guard = none) (t e : TypeId) (x : Operand) (ho : op.op = .buildSlice t 1 #[(0, x)]) (X : List Value) (hx : a.eval x = .agg X.toArray)
    (hrun : ∀ W, (Instr.buildSlice t 1 #[(0, .agg X.toArray)]).run Try.prog W = .ok (.slice (some ⟨W.heap.size, 0, none⟩) 1 1) (W.alloc (.cells X.toArray e)))
    (h : wpList Try.prog ops Q rest (a.put op.dst (.slice (some ⟨w.heap.size, 0, none⟩) 1 1)) (w.alloc (.cells X.toArray e))) : wpList Try.prog ops Q (op :: rest) a w := by
  refine wpList_plain hgd fun K hK => ?_
  unfold Oper.wp execOp
  simp only [ho]
  simp [hx, hrun]
  exact hK _ _ h
theorem wpList_bsR2 {ops : Array Oper} {rest : List Oper} {op : Oper} {a : Go.Act} {w : World} {Q : Exit → Go.Act → World → Prop} (hgd : op.guard = none) (t e : TypeId) (x y : Operand) (ho : op.op = .buildSlice t 2 #[(0, x), (1, y)]) (X Y : List Value) (hx : a.eval x = .agg X.toArray) (hy : a.eval y = .agg Y.toArray)
    (hrun : ∀ W, (Instr.buildSlice t 2 #[(0, .agg X.toArray), (1, .agg Y.toArray)]).run Try.prog W = .ok (.slice (some ⟨W.heap.size, 0, none⟩) 2 2) (W.alloc (.cells (X ++ Y).toArray e)))
    (h : wpList Try.prog ops Q rest (a.put op.dst (.slice (some ⟨w.heap.size, 0, none⟩) 2 2)) (w.alloc (.cells (X ++ Y).toArray e))) : wpList Try.prog ops Q (op :: rest) a w := by
  refine wpList_plain hgd fun K hK => ?_
  unfold Oper.wp execOp
  simp only [ho]
  simp [hx, hy, hrun]
  exact hK _ _ h
theorem row_two {W : World} {g : Nat} {x y : Rc} (k : Blk W g 36 (cRc x ++ cRc y).toArray) : RcRow W (some ⟨g, 0, none⟩) 2 [x, y] :=
  ⟨rfl, by omega, Or.inr ⟨g, 0, rfl, k.lt, fun i z hz => by
    match i, hz with
    | 0, hz =>
      injection hz with hz
      subst hz
      have := blk_range k 0 12
      exact this
    | 1, hz =>
      injection hz with hz
      subst hz
      have := blk_range k 12 12
      exact this⟩⟩
theorem row_tail {w : World} {b off n c : Nat} {x : Rc} {X : List Rc} (h : RcRow w (some ⟨b, off, none⟩) n (x :: X)) (hc : n ≤ c) : RcRow w (if c = 1 then some ⟨b, off, none⟩ else some ⟨b, off + 12, none⟩) (n - 1) X := by
  have hl : X.length = n - 1 := by have := h.1; simp at this; omega
  refine ⟨hl, by have := h.2.1; omega, ?_⟩
  by_cases c1 : c = 1
  · left
    have := h.1
    simp at this
    omega
  · rw [if_neg c1]
    rcases h.2.2 with h0 | ⟨b', off', e, hb, hr⟩
    · have := h.1; simp at this; omega
    · injection e with e; injection e with e1 e2; subst e1 e2
      refine Or.inr ⟨b, off + 12, rfl, hb, fun i z hz => ?_⟩
      have := hr (i + 1) z (by simpa using hz)
      rw [Nat.add_mul, Nat.one_mul] at this
      rw [show off + 12 + i * 12 = off + (i * 12 + 12) by omega]
      exact this
set_option maxHeartbeats 16000000 in
set_option maxRecDepth 100000 in
theorem mrg_any (aF : Option Addr) (nF cF : Nat) (F : List Rc) (aO : Option Addr) (nO cO : Nat) (O : List Rc) (w : World) (rF : RcRow w aF nF F) (rO : RcRow w aO nO O) (hcF : nF ≤ cF) (hmF : cF ≤ maxLen) (hcO : nO ≤ cO) (hmO : cO ≤ maxLen) (hF : Rise F) (hO : Rise O) (hn : nF + nO ≤ 2000) :
    Calls Try.prog 27 #[.slice aF nF cF, .slice aO nO cO] w fun e w' => ∃ v X, e = .returned v ∧ OwnX 12 cRc 36 w' w.heap.size v X ∧ X.length ≤ nF + nO ∧ Rise X ∧ (∀ k, look k X = (look k F).or (look k O)) ∧ Below w.heap.size w w' := by
  obtain ⟨i0, hi0, hz0, hz1, hz2⟩ := info_parts zRc_info
  obtain ⟨wm, hmk, hom, hgm⟩ := run_make_own (P := Try.prog) (w := w) w.heap.size 46 36 i0 _ 12 Try.underlying46 hi0 hz0 hz1 .i64 .i64 (nF + nO) (by rw [hz2]; omega) (by unfold maxLen; omega) (Nat.le_refl _)
  rw [show (((nF + nO : Nat)) : Int) = (nF : Int) + (nO : Int) by omega] at hmk
  unfold maxLen at hmF hmO
  have HOm : Hid (OwnX 12 cRc 36 wm w.heap.size (.slice (some ⟨w.heap.size, 0, none⟩) 0 (nF + nO)) ([] : List Rc)) := Lib.hid hom
  have HBm : Hid (Below w.heap.size w wm) := Lib.hid ⟨hgm.os, hgm.tape, hgm.output, hgm.size, fun q hq => hgm.block q hq (by simp)⟩
  have H0 := Lib.hid (And.intro rF (And.intro rO (mrgAt_start hF hO)))
  clear hi0 hz0 hz1 hz2 hom hgm rF rO hF hO i0
  go_enter Try.func27, Try.ntmps27
  go_wp2
  go_loopw [0, 1, 5, 6, 7, 8, 9] (fun v0 v1 v5 _ _ _ _ wr => ∃ (a1 : Option Addr) (n1 c1 : Nat) (F' : List Rc) (a2 : Option Addr) (n2 c2 : Nat) (O' Z : List Rc), v0 = .slice a1 n1 c1 ∧ v1 = .slice a2 n2 c2 ∧ RcRow w a1 n1 F' ∧ RcRow w a2 n2 O' ∧ n1 ≤ c1 ∧ c1 ≤ 9223372036854775807 ∧ n2 ≤ c2 ∧ c2 ≤ 9223372036854775807 ∧ Z.length + n1 + n2 ≤ nF + nO ∧ OwnX 12 cRc 36 wr w.heap.size v5 Z ∧ MrgAt F O Z F' O' ∧ Below w.heap.size w wr) (fun v0 v1 _ _ _ _ _ _ => slen v0 + slen v1)
  case atStart => exact ⟨aF, nF, cF, F, aO, nO, cO, O, [], rfl, rfl, H0.out.1, H0.out.2.1, hcF, hmF, hcO, hmO, by simp, HOm.out, H0.out.2.2, HBm.out⟩
  case round =>
    clear H0 HOm HBm hmk
    obtain ⟨a1, n1, c1, F', a2, n2, c2, O', Z, rfl, rfl, r1, r2, hc1, hm1, hc2, hm2, hl, ho, hm, hb⟩ := hrel
    have HR1 := Lib.hid r1
    have HR2 := Lib.hid r2
    have HOx := Lib.hid ho
    have HM := Lib.hid hm
    have HB := Lib.hid hb
    clear r1 r2 ho hm hb
    have hwr : Hid (w.heap.size ≤ wr.heap.size) := Lib.hid HB.out.size
    have HEnd : Hid ((n1 = 0 ∨ n2 = 0) → ∀ v' X w', X = Z ++ F' ++ O' → OwnX 12 cRc 36 w' w.heap.size v' X → Below w.heap.size w w' → ∃ v X, Ending.returned v' = Ending.returned v ∧ OwnX 12 cRc 36 w' w.heap.size v X ∧ X.length ≤ nF + nO ∧ Rise X ∧ (∀ k, look k X = (look k F).or (look k O)) ∧ Below w.heap.size w w') := Lib.hid (fun h0 v' X w' e ho hb => by
      have h1 : F' = [] ∨ O' = [] := h0.imp (fun q => List.eq_nil_of_length_eq_zero (HR1.out.1.trans q)) (fun q => List.eq_nil_of_length_eq_zero (HR2.out.1.trans q))
      obtain ⟨l1, l2⟩ := HM.out.last h1
      rw [← e] at l1 l2
      exact ⟨v', X, rfl, ho, by rw [e, List.length_append, List.length_append, HR1.out.1, HR2.out.1]; omega, l1, l2, hb⟩)
    by_cases h1 : 0 < n1
    · by_cases h2 : 0 < n2
      · obtain ⟨bf, of, f, rfl, hbf, hf0, hrf⟩ := HR1.out.at_ h1
        obtain ⟨bo, oo, o, rfl, hbo, ho0, hro⟩ := HR2.out.at_ h2
        obtain ⟨F2, hF2⟩ : ∃ F2, F' = f :: F2 := by
          cases F' with
          | nil => simp at hf0
          | cons a b => simp at hf0; exact ⟨b, by rw [hf0]⟩
        obtain ⟨O2, hO2⟩ : ∃ O2, O' = o :: O2 := by
          cases O' with
          | nil => simp at ho0
          | cons a b => simp at ho0; exact ⟨b, by rw [ho0]⟩
        subst hF2 hO2
        rw [Nat.zero_mul, Nat.add_zero] at hrf hro
        have HS : Hid (∀ W, Below wr.heap.size wr W → W.rangeAt bf of (cRc f) ∧ W.rangeAt bo oo (cRc o)) := Lib.hid (fun W hb => ⟨range_same hrf ((bthen HB.out hb).block bf hbf), range_same hro ((bthen HB.out hb).block bo hbo)⟩)
        obtain ⟨r, hr⟩ : ∃ r, r = minK [f, o] 1 := ⟨_, rfl⟩
        have hrc : (o.id < f.id ∧ r = o) ∨ (¬ o.id < f.id ∧ r = f) := by
          by_cases c : o.id < f.id
          · exact Or.inl ⟨c, by rw [hr]; exact mink_less (X := [f, o]) (k := 0) (x := o) rfl c⟩
          · exact Or.inr ⟨c, by rw [hr]; exact mink_stay (X := [f, o]) (k := 0) (x := o) rfl c⟩
        have HNx : Hid ((eqRc r f = true ∧ (r.id == o.id) = true ∧ MrgAt F O (Z ++ [r]) F2 O2) ∨ (eqRc r f = true ∧ (r.id == o.id) = false ∧ MrgAt F O (Z ++ [r]) F2 (o :: O2)) ∨ (eqRc r f = false ∧ (r.id == o.id) = true ∧ MrgAt F O (Z ++ [r]) (f :: F2) O2)) := Lib.hid (by
          rcases hrc with ⟨c, e⟩ | ⟨c, e⟩
          · rw [e]
            exact Or.inr (Or.inr ⟨eqRc_ne (fun q => by rw [q] at c; omega), by simp, HM.out.old c⟩)
          · rw [e]
            by_cases c2 : f.id = o.id
            · exact Or.inl ⟨eqRc_self f, by simpa using c2, HM.out.both c2⟩
            · exact Or.inr (Or.inl ⟨eqRc_self f, by simpa using c2, HM.out.fresh (by omega)⟩))
        have HLe : Hid (∀ h W, Blk W h 36 (cRc f ++ cRc o).toArray → Calls Try.prog 10 #[.slice (some ⟨h, 0, none⟩) 2 2] W fun e w' => e = .returned (.tuple #[.agg (cRc r).toArray, .bool true]) ∧ Below W.heap.size W w') := Lib.hid (fun h W k => by
          rw [hr]
          exact least_pos (some ⟨h, 0, none⟩) 2 2 [f, o] W (row_two k) (by omega) (by omega))
        have HSm : Hid (∀ W, Calls Try.prog 42 #[.agg (cRc r).toArray, .agg (cRc o).toArray] W fun e w' => e = .returned (.bool (r.id == o.id)) ∧ Below W.heap.size W w') := Lib.hid (fun W => samename_any r o W)
        have HEq : Hid (∀ w, (Op.equalIn 10000 36 (.agg (cRc r).toArray) (.agg (cRc f).toArray)).run Try.prog w = .ok (eqRc r f) w) := Lib.hid (fun w => eqRcF r f w)
        have HB2s : Hid (∀ W, (Instr.buildSlice 46 2 #[(0, .agg (cRc f).toArray), (1, .agg (cRc o).toArray)]).run Try.prog W = .ok (.slice (some ⟨W.heap.size, 0, none⟩) 2 2) (W.alloc (.cells (cRc f ++ cRc o).toArray 36))) := Lib.hid (bs_rc2 f o)
        have HB1s : Hid (∀ W, (Instr.buildSlice 46 1 #[(0, .agg (cRc r).toArray)]).run Try.prog W = .ok (.slice (some ⟨W.heap.size, 0, none⟩) 1 1) (W.alloc (.cells (cRc r).toArray 36))) := Lib.hid (bs_rc1 r)
        have HSz : Hid (((Try.prog.info? 36).map (·.size) = some (cRc f).length) ∧ ((Try.prog.info? 36).map (·.size) = some (cRc o).length) ∧ ((Try.prog.info? 36).map (·.size) = some (cRc r).length)) := Lib.hid ⟨rc_size f, rc_size o, rc_size r⟩
        have HT1a : Hid (c1 = 1 → RcRow w (some ⟨bf, of, none⟩) 0 F2) := Lib.hid (fun d => by have q := row_tail HR1.out hc1; rw [if_pos d, show n1 - 1 = 0 by omega] at q; exact q)
        have HT1b : Hid (¬ c1 = 1 → RcRow w (some ⟨bf, of + 12, none⟩) (n1 - 1) F2) := Lib.hid (fun d => by have q := row_tail HR1.out hc1; rw [if_neg d] at q; exact q)
        have HT2a : Hid (c2 = 1 → RcRow w (some ⟨bo, oo, none⟩) 0 O2) := Lib.hid (fun d => by have q := row_tail HR2.out hc2; rw [if_pos d, show n2 - 1 = 0 by omega] at q; exact q)
        have HT2b : Hid (¬ c2 = 1 → RcRow w (some ⟨bo, oo + 12, none⟩) (n2 - 1) O2) := Lib.hid (fun d => by have q := row_tail HR2.out hc2; rw [if_neg d] at q; exact q)
        obtain ⟨XF, hXF⟩ : ∃ XF, XF = cRc f := ⟨_, rfl⟩
        obtain ⟨XO, hXO⟩ : ∃ XO, XO = cRc o := ⟨_, rfl⟩
        obtain ⟨XR, hXR⟩ : ∃ XR, XR = cRc r := ⟨_, rfl⟩
        have HLn : Hid (XF.length = 12 ∧ XO.length = 12 ∧ XR.length = 12 ∧ XF.toArray.all (·.oneCell') = true ∧ XO.toArray.all (·.oneCell') = true ∧ XR.toArray.all (·.oneCell') = true) := Lib.hid (by rw [hXF, hXO, hXR]; exact ⟨rfl, rfl, rfl, rc_all _, rc_all _, rc_all _⟩)
        have HXR := Lib.hid hXR
        rw [← hXF] at HS HLe HEq HB2s HSz
        rw [← hXO] at HS HLe HSm HB2s HSz
        rw [← hXR] at HLe HSm HEq HB1s HSz
        obtain ⟨er, her⟩ : ∃ er, er = eqRc r f := ⟨_, rfl⟩
        obtain ⟨sm, hsm⟩ : ∃ sm, sm = (r.id == o.id) := ⟨_, rfl⟩
        rw [← her] at HNx HEq
        rw [← hsm] at HNx HSm
        have l1 : (1 : Int) ≤ (n1 : Int) := by omega
        have l2 : (1 : Int) ≤ (n2 : Int) := by omega
        have l1' : 1 ≤ n1 := h1
        have l2' : 1 ≤ n2 := h2
        clear hXF hXO hXR her hsm hrf hro hr hrc hf0 ho0 hbf hbo HM
        go_upto_region 3 with fail
        refine mrg_r3 (bf := bf) (of := of) (bo := bo) (oo := oo) (XF := XF) (XO := XO) (fun _ _ d _ _ h => by cases d <;> exact h) h1 h2 HLn.out.1 HLn.out.2.1 HLn.out.2.2.2.1 HLn.out.2.2.2.2.1 HS.out ?_
        intro W g6 g7 k6 k7 h67 l6 l7 hb
        have K6 := Lib.hid k6
        have K7 := Lib.hid k7
        have HBa := Lib.hid (bthen HB.out hb)
        have HOa := Lib.hid (HOx.out.keep hb)
        have HOl : Hid (∀ b, u5.ownBlock = some b → w.heap.size ≤ b ∧ b < wr.heap.size) := Lib.hid HOx.out.lt
        have hlw : wr.heap.size ≤ W.heap.size := hb.size
        clear k6 k7 hb HS HOx HB
        go_wp2_with (first
          | refine wpList_load_mid rfl 36 (.tmp 6) rfl g6 0 rfl XF _ (blk_whole K6.out) Try.underlying36 rfl HSz.out.1 ?_
          | refine wpList_load_mid rfl 36 (.tmp 7) rfl g7 0 rfl XO _ (blk_whole K7.out) Try.underlying36 rfl HSz.out.2.1 ?_
          | refine wpList_bsR2 rfl 46 36 (.tmp 31) (.tmp 32) rfl XF XO rfl rfl HB2s.out ?_)
        refine (HLe.out W.heap.size _ (Blk.new W _ _)).mono ?_
        rintro e w3 ⟨rfl, hb⟩
        have hal : Below W.heap.size W w3 := bthen (alloc_below _ _) hb
        have HW3 : Hid (Blk w3 g6 36 XF.toArray ∧ Blk w3 g7 36 XO.toArray ∧ OwnX 12 cRc 36 w3 w.heap.size u5 Z ∧ Below w.heap.size w w3) := Lib.hid ⟨K6.out.keep hal, K7.out.keep hal, HOa.out.keep hal, bthen HBa.out hal⟩
        have hlw3 : wr.heap.size ≤ w3.heap.size := Nat.le_trans hlw hal.size
        clear hb hal K6 K7 HOa HBa HLe HB2s hlw
        have KN := Blk.new w3 36 (cRc zRc).toArray
        have HTh : Hid ((w3.alloc (.cells (cRc zRc).toArray 36)).there w3.heap.size 0 XR.toArray.size) := Lib.hid (blk_there KN (by show 0 + XR.length ≤ 12; rw [HLn.out.2.2.1]; exact Nat.le_refl 12))
        have HSz' : Hid ((Try.prog.info? 36).map (·.size) = some XR.toArray.size) := Lib.hid HSz.out.2.2
        have HW4 : Hid (Blk ((w3.alloc (.cells (cRc zRc).toArray 36)).setCells w3.heap.size 0 XR) g6 36 XF.toArray ∧ Blk ((w3.alloc (.cells (cRc zRc).toArray 36)).setCells w3.heap.size 0 XR) g7 36 XO.toArray ∧ Blk ((w3.alloc (.cells (cRc zRc).toArray 36)).setCells w3.heap.size 0 XR) w3.heap.size 36 XR.toArray ∧ OwnX 12 cRc 36 ((w3.alloc (.cells (cRc zRc).toArray 36)).setCells w3.heap.size 0 XR) w.heap.size u5 Z ∧ Below w.heap.size w ((w3.alloc (.cells (cRc zRc).toArray 36)).setCells w3.heap.size 0 XR)) := Lib.hid (by
          obtain ⟨q1, q2, q3, q4⟩ := HW3.out
          have hbel : Below w3.heap.size w3 ((w3.alloc (.cells (cRc zRc).toArray 36)).setCells w3.heap.size 0 XR) := below_setCells XR (alloc_below _ _) (Nat.le_refl _)
          refine ⟨q1.keep hbel, q2.keep hbel, ?_, q3.keep hbel, bthen q4 hbel⟩
          have := blk_setCells XR (o := 0) KN (by rw [HLn.out.2.2.1]; exact Nat.le_refl 12)
          rw [splice_all (by rw [HLn.out.2.2.1]; rfl)] at this
          exact this)
        clear KN
        go_upto_region 5 with (refine wpList_store_mid rfl 36 (.tmp 8) (.tmp 35) rfl w3.heap.size 0 XR.toArray rfl rfl HTh.out HSz'.out HLn.out.2.2.2.2.2 ?_)
        refine fin (fun W => Blk W g6 36 XF.toArray ∧ Blk W g7 36 XO.toArray ∧ Blk W w3.heap.size 36 XR.toArray ∧ OwnX 12 cRc 36 W w.heap.size u5 Z ∧ Below w.heap.size w W) HW4.out ?_
        obtain ⟨g8, hg8⟩ : ∃ g8, g8 = w3.heap.size := ⟨_, rfl⟩
        rw [← hg8] at hlw3 ⊢
        clear HW4 HTh HW3 hg8
        rintro W4 ⟨k6, k7, k8, ho, hb⟩
        have K6 := Lib.hid k6
        have K7 := Lib.hid k7
        have K8 := Lib.hid k8
        have HO4 := Lib.hid ho
        have HB4 := Lib.hid hb
        clear k6 k7 k8 ho hb
        have hZ4 : Z.length ≤ 2000 := by omega
        have hw4 : Hid (w.heap.size ≤ W4.heap.size) := Lib.hid HB4.out.size
        go_wp2_with (first
          | refine wpList_load_mid rfl 36 (.tmp 8) rfl g8 0 rfl XR _ (blk_whole K8.out) Try.underlying36 rfl HSz.out.2.2 ?_
          | refine wpList_bsR1 rfl 46 36 (.tmp 38) rfl XR rfl HB1s.out ?_
          | (at_builtin; refine wpList_pushX rfl (.tmp 37) (.tmp 39) 46 96 (.agg (cRc zRc).toArray) rfl Try.underlying46 zRc_info rfl (by decide) (by decide) cRc_len r (cRc_one r) rfl (HO4.out.keep (alloc_below _ _)) W4.heap.size 1 rfl (by rw [← HXR.out]; exact blk_whole (Blk.new W4 _ _)) hZ4 (Nat.le_trans hw4.out (by simp)) ?_))
        intro v' W5 k1 k2 k3
        have HW5 : Hid (Blk W5 g6 36 XF.toArray ∧ Blk W5 g7 36 XO.toArray ∧ Blk W5 g8 36 XR.toArray ∧ OwnX 12 cRc 36 W5 w.heap.size v' (Z ++ [r]) ∧ Below w.heap.size w W5) := Lib.hid (by
          have hal : Below W4.heap.size W4 (W4.alloc (.cells XR.toArray 36)) := alloc_below _ _
          have q6 := K6.out.keep hal
          have q7 := K7.out.keep hal
          have q8 := K8.out.keep hal
          refine ⟨q6.same (k2.block _ q6.lt (fun e => ?_)), q7.same (k2.block _ q7.lt (fun e => ?_)), q8.same (k2.block _ q8.lt (fun e => ?_)), k1, grown_below2 (bthen HB4.out hal) k2 (fun b e => (HO4.out.lt b e).1)⟩
          · have := (HOl.out _ e.symm).2; omega
          · have := (HOl.out _ e.symm).2; omega
          · have := (HOl.out _ e.symm).2; omega)
        clear k1 k2 k3 K6 K7 K8 HO4 HB4
        have heq := HEq.out
        have hlz : (Z ++ [r]).length = Z.length + 1 := by rw [List.length_append]; rfl
        rcases HNx.out with ⟨e1, e2, hM⟩ | ⟨e1, e2, hM⟩ | ⟨e1, e2, hM⟩
        · have HM2 := Lib.hid hM
          rw [e1] at heq
          rw [e2] at HSm
          clear hM HNx e1 e2 HEq
          by_cases d1 : c1 = 1
          · have hT1 := Lib.hid (HT1a.out d1)
            subst d1
            by_cases d2 : c2 = 1
            · have hT2 := Lib.hid (HT2a.out d2)
              subst d2
              go_wp2_with (first
                | refine wpList_load_mid rfl 36 (.tmp 8) rfl g8 0 rfl XR _ (blk_whole HW5.out.2.2.1) Try.underlying36 rfl HSz.out.2.2 ?_
                | refine wpList_load_mid rfl 36 (.tmp 6) rfl g6 0 rfl XF _ (blk_whole HW5.out.1) Try.underlying36 rfl HSz.out.1 ?_
                | refine wpList_load_mid rfl 36 (.tmp 7) rfl g7 0 rfl XO _ (blk_whole HW5.out.2.1) Try.underlying36 rfl HSz.out.2.1 ?_)
              refine (HSm.out _).mono ?_
              rintro e w6 ⟨rfl, hb⟩
              have HO6 := Lib.hid (HW5.out.2.2.2.1.keep hb)
              have HB6 := Lib.hid (bthen HW5.out.2.2.2.2 hb)
              clear hb HW5
              go_wp2
              go_roundw
              case rel => exact ⟨_, _, _, F2, _, _, _, O2, Z ++ [r], rfl, rfl, hT1.out, hT2.out, by omega, by omega, by omega, by omega, by omega, HO6.out, HM2.out, HB6.out⟩
              case measure => simp [slen] <;> omega
            · have hT2 := Lib.hid (HT2b.out d2)
              skip
              go_wp2_with (first
                | refine wpList_load_mid rfl 36 (.tmp 8) rfl g8 0 rfl XR _ (blk_whole HW5.out.2.2.1) Try.underlying36 rfl HSz.out.2.2 ?_
                | refine wpList_load_mid rfl 36 (.tmp 6) rfl g6 0 rfl XF _ (blk_whole HW5.out.1) Try.underlying36 rfl HSz.out.1 ?_
                | refine wpList_load_mid rfl 36 (.tmp 7) rfl g7 0 rfl XO _ (blk_whole HW5.out.2.1) Try.underlying36 rfl HSz.out.2.1 ?_)
              refine (HSm.out _).mono ?_
              rintro e w6 ⟨rfl, hb⟩
              have HO6 := Lib.hid (HW5.out.2.2.2.1.keep hb)
              have HB6 := Lib.hid (bthen HW5.out.2.2.2.2 hb)
              clear hb HW5
              go_wp2
              go_roundw
              case rel => exact ⟨_, _, _, F2, _, _, _, O2, Z ++ [r], rfl, rfl, hT1.out, hT2.out, by omega, by omega, by omega, by omega, by omega, HO6.out, HM2.out, HB6.out⟩
              case measure => simp [slen] <;> omega
          · have hT1 := Lib.hid (HT1b.out d1)
            skip
            by_cases d2 : c2 = 1
            · have hT2 := Lib.hid (HT2a.out d2)
              subst d2
              go_wp2_with (first
                | refine wpList_load_mid rfl 36 (.tmp 8) rfl g8 0 rfl XR _ (blk_whole HW5.out.2.2.1) Try.underlying36 rfl HSz.out.2.2 ?_
                | refine wpList_load_mid rfl 36 (.tmp 6) rfl g6 0 rfl XF _ (blk_whole HW5.out.1) Try.underlying36 rfl HSz.out.1 ?_
                | refine wpList_load_mid rfl 36 (.tmp 7) rfl g7 0 rfl XO _ (blk_whole HW5.out.2.1) Try.underlying36 rfl HSz.out.2.1 ?_)
              refine (HSm.out _).mono ?_
              rintro e w6 ⟨rfl, hb⟩
              have HO6 := Lib.hid (HW5.out.2.2.2.1.keep hb)
              have HB6 := Lib.hid (bthen HW5.out.2.2.2.2 hb)
              clear hb HW5
              go_wp2
              go_roundw
              case rel => exact ⟨_, _, _, F2, _, _, _, O2, Z ++ [r], rfl, rfl, hT1.out, hT2.out, by omega, by omega, by omega, by omega, by omega, HO6.out, HM2.out, HB6.out⟩
              case measure => simp [slen] <;> omega
            · have hT2 := Lib.hid (HT2b.out d2)
              skip
              go_wp2_with (first
                | refine wpList_load_mid rfl 36 (.tmp 8) rfl g8 0 rfl XR _ (blk_whole HW5.out.2.2.1) Try.underlying36 rfl HSz.out.2.2 ?_
                | refine wpList_load_mid rfl 36 (.tmp 6) rfl g6 0 rfl XF _ (blk_whole HW5.out.1) Try.underlying36 rfl HSz.out.1 ?_
                | refine wpList_load_mid rfl 36 (.tmp 7) rfl g7 0 rfl XO _ (blk_whole HW5.out.2.1) Try.underlying36 rfl HSz.out.2.1 ?_)
              refine (HSm.out _).mono ?_
              rintro e w6 ⟨rfl, hb⟩
              have HO6 := Lib.hid (HW5.out.2.2.2.1.keep hb)
              have HB6 := Lib.hid (bthen HW5.out.2.2.2.2 hb)
              clear hb HW5
              go_wp2
              go_roundw
              case rel => exact ⟨_, _, _, F2, _, _, _, O2, Z ++ [r], rfl, rfl, hT1.out, hT2.out, by omega, by omega, by omega, by omega, by omega, HO6.out, HM2.out, HB6.out⟩
              case measure => simp [slen] <;> omega
        · have HM2 := Lib.hid hM
          rw [e1] at heq
          rw [e2] at HSm
          clear hM HNx e1 e2 HEq
          by_cases d1 : c1 = 1
          · have hT := Lib.hid (HT1a.out d1)
            subst d1
            go_wp2_with (first
              | refine wpList_load_mid rfl 36 (.tmp 8) rfl g8 0 rfl XR _ (blk_whole HW5.out.2.2.1) Try.underlying36 rfl HSz.out.2.2 ?_
              | refine wpList_load_mid rfl 36 (.tmp 6) rfl g6 0 rfl XF _ (blk_whole HW5.out.1) Try.underlying36 rfl HSz.out.1 ?_
              | refine wpList_load_mid rfl 36 (.tmp 7) rfl g7 0 rfl XO _ (blk_whole HW5.out.2.1) Try.underlying36 rfl HSz.out.2.1 ?_)
            refine (HSm.out _).mono ?_
            rintro e w6 ⟨rfl, hb⟩
            have HO6 := Lib.hid (HW5.out.2.2.2.1.keep hb)
            have HB6 := Lib.hid (bthen HW5.out.2.2.2.2 hb)
            clear hb HW5
            go_wp2
            go_roundw
            case rel => exact ⟨_, _, _, F2, _, _, _, o :: O2, Z ++ [r], rfl, rfl, hT.out, HR2.out, by omega, by omega, by omega, by omega, by omega, HO6.out, HM2.out, HB6.out⟩
            case measure => simp [slen] <;> omega
          · have hT := Lib.hid (HT1b.out d1)
            skip
            go_wp2_with (first
              | refine wpList_load_mid rfl 36 (.tmp 8) rfl g8 0 rfl XR _ (blk_whole HW5.out.2.2.1) Try.underlying36 rfl HSz.out.2.2 ?_
              | refine wpList_load_mid rfl 36 (.tmp 6) rfl g6 0 rfl XF _ (blk_whole HW5.out.1) Try.underlying36 rfl HSz.out.1 ?_
              | refine wpList_load_mid rfl 36 (.tmp 7) rfl g7 0 rfl XO _ (blk_whole HW5.out.2.1) Try.underlying36 rfl HSz.out.2.1 ?_)
            refine (HSm.out _).mono ?_
            rintro e w6 ⟨rfl, hb⟩
            have HO6 := Lib.hid (HW5.out.2.2.2.1.keep hb)
            have HB6 := Lib.hid (bthen HW5.out.2.2.2.2 hb)
            clear hb HW5
            go_wp2
            go_roundw
            case rel => exact ⟨_, _, _, F2, _, _, _, o :: O2, Z ++ [r], rfl, rfl, hT.out, HR2.out, by omega, by omega, by omega, by omega, by omega, HO6.out, HM2.out, HB6.out⟩
            case measure => simp [slen] <;> omega
        · have HM2 := Lib.hid hM
          rw [e1] at heq
          rw [e2] at HSm
          clear hM HNx e1 e2 HEq
          by_cases d2 : c2 = 1
          · have hT := Lib.hid (HT2a.out d2)
            subst d2
            go_wp2_with (first
              | refine wpList_load_mid rfl 36 (.tmp 8) rfl g8 0 rfl XR _ (blk_whole HW5.out.2.2.1) Try.underlying36 rfl HSz.out.2.2 ?_
              | refine wpList_load_mid rfl 36 (.tmp 6) rfl g6 0 rfl XF _ (blk_whole HW5.out.1) Try.underlying36 rfl HSz.out.1 ?_
              | refine wpList_load_mid rfl 36 (.tmp 7) rfl g7 0 rfl XO _ (blk_whole HW5.out.2.1) Try.underlying36 rfl HSz.out.2.1 ?_)
            refine (HSm.out _).mono ?_
            rintro e w6 ⟨rfl, hb⟩
            have HO6 := Lib.hid (HW5.out.2.2.2.1.keep hb)
            have HB6 := Lib.hid (bthen HW5.out.2.2.2.2 hb)
            clear hb HW5
            go_wp2
            go_roundw
            case rel => exact ⟨_, _, _, f :: F2, _, _, _, O2, Z ++ [r], rfl, rfl, HR1.out, hT.out, by omega, by omega, by omega, by omega, by omega, HO6.out, HM2.out, HB6.out⟩
            case measure => simp [slen] <;> omega
          · have hT := Lib.hid (HT2b.out d2)
            skip
            go_wp2_with (first
              | refine wpList_load_mid rfl 36 (.tmp 8) rfl g8 0 rfl XR _ (blk_whole HW5.out.2.2.1) Try.underlying36 rfl HSz.out.2.2 ?_
              | refine wpList_load_mid rfl 36 (.tmp 6) rfl g6 0 rfl XF _ (blk_whole HW5.out.1) Try.underlying36 rfl HSz.out.1 ?_
              | refine wpList_load_mid rfl 36 (.tmp 7) rfl g7 0 rfl XO _ (blk_whole HW5.out.2.1) Try.underlying36 rfl HSz.out.2.1 ?_)
            refine (HSm.out _).mono ?_
            rintro e w6 ⟨rfl, hb⟩
            have HO6 := Lib.hid (HW5.out.2.2.2.1.keep hb)
            have HB6 := Lib.hid (bthen HW5.out.2.2.2.2 hb)
            clear hb HW5
            go_wp2
            go_roundw
            case rel => exact ⟨_, _, _, f :: F2, _, _, _, O2, Z ++ [r], rfl, rfl, HR1.out, hT.out, by omega, by omega, by omega, by omega, by omega, HO6.out, HM2.out, HB6.out⟩
            case measure => simp [slen] <;> omega
      · skip
        have HR1w := Lib.hid (HR1.out.keep HB.out)
        have HR2w := Lib.hid (HR2.out.keep HB.out)
        have hZl : Z.length + n1 ≤ 4000000 := by omega
        go_wp2_with (first
          | (at_builtin; refine wpList_appendR rfl (.tmp 51) (.tmp 52) 46 96 (.agg (cRc zRc).toArray) rfl Try.underlying46 zRc_info rfl (by decide) (by decide) cRc_len cRc_one rfl HOx.out a1 n1 c1 rfl HR1w.out hZl hwr.out ?_))
        intro v' W2 k1 k2 k3
        have hZ2 : (Z ++ F').length + n2 ≤ 4000000 := by rw [List.length_append, HR1.out.1]; omega
        have HB2 : Hid (Below w.heap.size w W2) := Lib.hid (grown_below2 HB.out k2 (fun b e => (HOx.out.lt b e).1))
        have HK1 := Lib.hid k1
        have HR2x := Lib.hid (HR2.out.keep HB2.out)
        have hw2 : Hid (w.heap.size ≤ W2.heap.size) := Lib.hid HB2.out.size
        clear k1 k2 k3
        go_wp2_with (first
          | (at_builtin; refine wpList_appendR rfl (.tmp 53) (.tmp 54) 46 96 (.agg (cRc zRc).toArray) rfl Try.underlying46 zRc_info rfl (by decide) (by decide) cRc_len cRc_one rfl HK1.out a2 n2 c2 rfl HR2x.out hZ2 hw2.out ?_))
        intro v2 W3 k1 k2 k3
        have HB3 : Hid (Below w.heap.size w W3) := Lib.hid (grown_below2 HB2.out k2 (fun b e => (HK1.out.lt b e).1))
        have HK2 := Lib.hid k1
        clear k1 k2 k3
        go_wp2
        go_ret
        exact HEnd.out (by omega) _ _ _ (by simp only [List.append_assoc]) HK2.out HB3.out
    · skip
      have HR1w := Lib.hid (HR1.out.keep HB.out)
      have HR2w := Lib.hid (HR2.out.keep HB.out)
      have hZl : Z.length + n1 ≤ 4000000 := by omega
      go_wp2_with (first
        | (at_builtin; refine wpList_appendR rfl (.tmp 51) (.tmp 52) 46 96 (.agg (cRc zRc).toArray) rfl Try.underlying46 zRc_info rfl (by decide) (by decide) cRc_len cRc_one rfl HOx.out a1 n1 c1 rfl HR1w.out hZl hwr.out ?_))
      intro v' W2 k1 k2 k3
      have hZ2 : (Z ++ F').length + n2 ≤ 4000000 := by rw [List.length_append, HR1.out.1]; omega
      have HB2 : Hid (Below w.heap.size w W2) := Lib.hid (grown_below2 HB.out k2 (fun b e => (HOx.out.lt b e).1))
      have HK1 := Lib.hid k1
      have HR2x := Lib.hid (HR2.out.keep HB2.out)
      have hw2 : Hid (w.heap.size ≤ W2.heap.size) := Lib.hid HB2.out.size
      clear k1 k2 k3
      go_wp2_with (first
        | (at_builtin; refine wpList_appendR rfl (.tmp 53) (.tmp 54) 46 96 (.agg (cRc zRc).toArray) rfl Try.underlying46 zRc_info rfl (by decide) (by decide) cRc_len cRc_one rfl HK1.out a2 n2 c2 rfl HR2x.out hZ2 hw2.out ?_))
      intro v2 W3 k1 k2 k3
      have HB3 : Hid (Below w.heap.size w W3) := Lib.hid (grown_below2 HB2.out k2 (fun b e => (HK1.out.lt b e).1))
      have HK2 := Lib.hid k1
      clear k1 k2 k3
      go_wp2
      go_ret
      exact HEnd.out (by omega) _ _ _ (by simp only [List.append_assoc]) HK2.out HB3.out
def InsAns (w w' : World) (nF nO : Nat) (v : Value) (L X R : List Rc) : Prop := OwnX 12 cRc 36 w' w.heap.size v R ∧ R.length ≤ nF + nO ∧ Rise R ∧ ∀ k, look k R = (look k X.reverse).or (look k L)
set_option maxHeartbeats 4000000 in
set_option maxRecDepth 100000 in
theorem insert_any (aL : Option Addr) (nL cL : Nat) (L : List Rc) (aX : Option Addr) (nX cX : Nat) (X : List Rc) (w : World) (rL : RcRow w aL nL L) (rX : RcRow w aX nX X) (hcL : nL ≤ cL) (hmL : cL ≤ maxLen) (hL : Rise L) (hn : nX + nL ≤ 2000) :
    Calls Try.prog 14 #[.slice aL nL cL, .slice aX nX cX] w fun e w' => ∃ v R, e = .returned v ∧ InsAns w w' nX nL v L X R ∧ Below w.heap.size w w' := by
  have HRi := Lib.hid (ris_any aX nX cX X w rX (by omega))
  have HR := Lib.hid rL
  have HL := Lib.hid hL
  clear rX rL hL
  go_enter Try.func14, Try.ntmps14
  go_wp2_with fail
  refine HRi.out.mono ?_
  rintro e w1 ⟨a1, m, c1, F, rfl, hr, hm, hcm, hmn, hrf, hlk, hb⟩
  have HB := Lib.hid hb
  have HLk := Lib.hid hlk
  have HMg := Lib.hid (mrg_any a1 m c1 F aL nL cL L w1 hr (HR.out.keep hb) hm hcm hcL hmL hrf HL.out (by omega))
  clear hr hm hcm hrf hlk hb HRi
  go_wp2_with fail
  refine HMg.out.mono ?_
  rintro e w2 ⟨v, R, rfl, ho, hl, hr, hk, hb⟩
  have HA : Hid (InsAns w w2 nX nL v L X R ∧ Below w.heap.size w w2) := Lib.hid ⟨⟨ho.low HB.out.size, by omega, hr, fun k => by rw [hk k, HLk.out k]⟩, bthen HB.out hb⟩
  clear ho hl hr hk hb HMg
  go_wp2
  go_ret
  exact ⟨v, R, rfl, HA.out⟩
end Go.Proofs.Ytffbehcbokmpkaa
