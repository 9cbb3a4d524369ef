/-
  The landed forest: Under: from the stack's top on, each name ahead of its children.
-/
import Derived.Test.YtdndafdninnjfaaGreatMQLfoI
import Derived.Maps.AppendAt
import Derived.Deep.QuietTactic
import Derived.WalkMore
import Derived.ScopeJumps
namespace Go.Proofs.YtdndafdninnjfaaGreat
open Go.RowKit

/-- a scope with one label: the way from the label on is walked once -/
theorem wp_scope_once {P : Program} {a : Go.Act} {w : World} {Q : Exit → Go.Act → World → Prop} {c rest : Code} (l : Nat) (J : Go.Act → World → Prop) (μ : Go.Act → World → Nat) (hf : findLabel c l = some (Code.skip.seq rest))
    (pass : ∀ a w, J a w → rest.wp P (Exit.jump l (fun a' w' => J a' w' ∧ μ a' w' < μ a w) Q) a w)
    (first : (∀ a w, J a w → rest.wp P (Exit.jump l J Q) a w) → c.wp P (Exit.jump l J Q) a w) : (Code.scope c).wp P Q a w :=
  wp_scope_jumps l J μ hf (first (fun a w h => Code.wp_mono (fun e a' w' q => by
    cases e with
    | goto l' => exact ⟨q.1, q.2.1⟩
    | _ => exact q) (pass a w h))) (fun a w h => wp_seq (wp_skip (pass a w h)))
set_option maxRecDepth 100000 in
/-- one list of names behind another one, and where it lies -/
theorem wpList_cat9_at {ops : Array Oper} {rest : List Oper} {op : Oper} {a : Go.Act} {w : World} {Q : Exit → Go.Act → World → Prop} (hgd : op.guard = none) (ts tb : Operand)
    (ho : op.op = .call { callee := .builtin .append, args := #[ts, tb], argTypes := #[24, 24] }) (base n : Nat) (v : Value) (zs : List Int) (hs : a.eval ts = v) (hown : OwnD w base v n zs) (x : Option Addr) (m cap : Nat) (ys : List Int) (hx : a.eval tb = .slice x m cap) (row : Row w x m ys) (hn : n ≤ 100000) (hm : m ≤ 100000) (hb : base ≤ w.heap.size)
    (h : ∀ v' w', OwnD w' base v' (n + m) (zs ++ ys) → w.grownBy w' v.ownBlock → (v'.ownBlock = v.ownBlock ∨ v'.ownBlock = some w.heap.size) → wpList Tryz.prog ops Q rest (a.put op.dst v') w') : wpList Tryz.prog ops Q (op :: rest) a w := by
  obtain ⟨i0, hi0, hz0, hz1, hz2⟩ := info_parts id_info
  have hl : ys.length = m := row.1
  cases x with
  | none =>
    have hm0 : m = 0 := by
      rcases row.2.2 with c | ⟨b, off, e, _⟩
      · exact c
      · cases e
    subst hm0
    have hys : ys = [] := List.eq_nil_of_length_eq_zero hl
    subst hys
    have h2 := h v w (by rw [Nat.add_zero, List.append_nil]; exact hown) ⟨rfl, rfl, rfl, Nat.le_refl _, fun _ _ _ => rfl⟩ (Or.inl rfl)
    have hr : (Builtin.append_ #[24, 24] op.type #[v, .slice none 0 cap]).run Tryz.prog w = .ok v w := by
      rcases hown.2 with ⟨rfl, _⟩ | ⟨g, c, cur, rfl, _, _, hnc, _⟩
      · simp [Builtin.append_, run_underlying Tryz.underlying24, sizeOf, typeInfo, hi0, Builtin.lenOf, Builtin.firstCells]
      · simp [Builtin.append_, run_underlying Tryz.underlying24, sizeOf, typeInfo, hi0, Builtin.lenOf, Builtin.firstCells, loadCells, storeCells, hnc]
    refine wpList_plain hgd fun K hK => ?_
    have h3 := hK _ _ h2
    unfold Oper.wp execOp
    simp only [ho, resolve, invoke, builtin, Sem.run_bind, Sem.run_pure, Result.andThen_ok, List.map_toArray, List.map_cons, List.map_nil, hs, hx, hr]
    exact h3
  | some ad =>
    have hnews : ∀ j u, (ys.map (Value.int .i64))[j]? = some u → w.cell? (ad.add j) = some u := fun j u hu => by
      have hj : j < m := by have := (List.getElem?_eq_some_iff.1 hu).1; rw [List.length_map, hl] at this; exact this
      obtain ⟨b, off, y, e, hy, cy⟩ := row_at row hj
      injection e with e
      subst e
      rw [Addr.add_mid, cy]
      rw [List.getElem?_map, hy] at hu
      exact hu
    refine wpList_append_own_at _ hgd ts tb 24 ho base 41 i0 (.int .i64 0) 1 8 Tryz.underlying24 hi0 hz0 hz1 hz2 rfl (by decide) v n (zs.map (Value.int .i64)) hs hown ad m cap (ys.map (Value.int .i64)) hx (by rw [List.length_map, hl, Nat.mul_one]) hnews (one_enc ys) (by unfold maxLen; omega) (by omega) hb ?_
    intro v' w' h1 h2 _ h4
    refine h v' w' ?_ h2 h4
    unfold OwnD
    rw [List.map_append]
    exact h1
def slen : Value → Nat
  | .slice _ n _ => n
  | _ => 0
/-- what holds at the label -/
structure UInv (w wr : World) (L : FT) (xs : List Int) (v5 v8 : Value) (pre S : List Int) : Prop where
  eq : undL L xs = pre ++ S.reverse.flatMap (beh L)
  own5 : OwnD wr w.heap.size v5 pre.length pre
  own8 : OwnD wr w.heap.size v8 S.length S
  far : ∀ b, v5.ownBlock = some b → v8.ownBlock ≠ some b
  low : Below w.heap.size w wr
  rng : Rgs S
theorem flat_ge {L : FT} (h : WF L) : ∀ S : List Int, S.length ≤ (S.flatMap (beh L)).length
  | [] => Nat.le_refl _
  | x :: S => by
    have ih := flat_ge h S
    rw [List.flatMap_cons, List.length_append, List.length_cons, beh_eq h, List.length_cons]
    omega
theorem capOk_own {w : World} {base n : Nat} {v : Value} {zs : List Int} (h : OwnD w base v n zs) : CapOk v := by
  rcases h.2 with ⟨rfl, _⟩ | ⟨g, cap, cur, rfl, _, _, hn, _⟩
  · exact ⟨none, 0, 0, rfl, Nat.le_refl _⟩
  · exact ⟨_, n, cap, rfl, hn⟩
section
variable {w : World} {g gp gc : Nat} {L : FT} {bl cp : Int → Nat}
set_option maxHeartbeats 8000000 in
set_option maxRecDepth 100000 in
theorem lunder_any (h : LF w g L gp gc bl cp) (hW : WF L) (hL : L.length ≤ 1000) {a : Option Addr} {n cap : Nat} {xs : List Int} (hn : n ≤ 1000) (hr : Row w a n xs) (hx : Rgs xs) :
    Calls Tryz.prog 22 #[.pointer (some ⟨g, 0, none⟩), .slice a n cap] w fun e w' => ∃ v, e = .returned v ∧ LRes w w' (undL L xs) v ∧ CapOk v ∧ Below w.heap.size w w' := by
  have HTo := Lib.hid (ltops_any (cap := cap) h hW hn hr hx)
  have hul := undL_len hW xs
  rw [hr.1] at hul
  have HW := Lib.hid hW
  have HTr : Hid (Rgs (topL L xs)) := Lib.hid (fun z hz => hx z (mem_cmpS.1 (List.mem_filter.1 hz).1))
  have HUt := Lib.hid (und_tops L xs)
  have HCh : Hid (∀ u z, Below w.heap.size w u → Rg z → Calls Tryz.prog 41 #[.pointer (some ⟨g, 0, none⟩), .int .i64 z] u fun e w' => ∃ v, e = .returned v ∧ OwnD w' u.heap.size v (chF L z).length (chF L z) ∧ Below u.heap.size u w') := Lib.hid (fun u z q hz => lchildren_any (h.keep q) hL hz)
  have HCr : Hid (∀ x z, z ∈ chF L x → Rg z) := Lib.hid (fun x z hz => ch_rng hW.1 h.rng hz)
  obtain ⟨i0, hi0, hz0, hz1, hz2⟩ := info_parts id_info
  have HI := Lib.hid (And.intro hi0 (And.intro hz0 (And.intro hz1 hz2)))
  obtain ⟨N, hN⟩ : ∃ N, N = (undL L xs).length := ⟨_, rfl⟩
  rw [← hN] at hul
  have HN := Lib.hid hN
  clear h hW hr hx hi0 hz0 hz1 hz2 hN
  go_enter Tryz.func22, Tryz.ntmps22
  go_wp2
  refine wp_scope_once 0 (fun a' wr => ∃ (pre S : List Int) (v5 v6 v7 v8 u9 u10 u11 u12 u13 u14 u15 u16 u17 u18 u19 u20 u21 u22 u23 u24 u25 u26 u27 u28 u29 u30 u31 u32 u33 u34 u35 u36 u37 u38 u39 u40 u41 u42 : Value), a' = { tmps := #[.pointer (some ⟨g, 0, none⟩), .slice a n cap, undef, undef, .slice none 0 0, v5, v6, v7, v8, u9, u10, u11, u12, u13, u14, u15, u16, u17, u18, u19, u20, u21, u22, u23, u24, u25, u26, u27, u28, u29, u30, u31, u32, u33, u34, u35, u36, u37, u38, u39, u40, u41, u42], defers := [] } ∧ UInv w wr L xs v5 v8 pre S) (fun a' _ => N - slen (a'.tmps.getD 5 undef)) rfl ?_ ?_
  · rintro a' wr ⟨pre, S, v5, v6, v7, v8, u9, u10, u11, u12, u13, u14, u15, u16, u17, u18, u19, u20, u21, u22, u23, u24, u25, u26, u27, u28, u29, u30, u31, u32, u33, u34, u35, u36, u37, u38, u39, u40, u41, u42, rfl, hinv⟩
    have HV := Lib.hid hinv
    have hge := flat_ge HW.out S.reverse
    have hln : pre.length + (S.reverse.flatMap (beh L)).length = N := by rw [HN.out, hinv.eq, List.length_append]
    rw [List.length_reverse] at hge
    obtain ⟨qa, qcap, hqv, -⟩ := hinv.own5.row
    have hsz := hinv.low.size
    clear hinv
    rcases List.eq_nil_or_concat S with rfl | ⟨S', id, rfl⟩
    · have HR : Hid (undL L xs = pre) := Lib.hid (by rw [HV.out.eq]; simp)
      obtain ⟨ea, ecap, rfl, -⟩ := HV.out.own8.row
      have HE : Hid (LRes w wr (undL L xs) v5 ∧ CapOk v5 ∧ Below w.heap.size w wr) := Lib.hid ⟨by rw [HR.out]; exact LRes.of9 HV.out.own5 (Nat.le_refl _), capOk_own HV.out.own5, HV.out.low⟩
      clear hqv
      go_wp2
      simp only [Exit.jump]
      go_ret
      exact ⟨v5, rfl, HE.out⟩
    · have hrid : Rg id := HV.out.rng id (by simp)
      have HRid := Lib.hid hrid
      have HRS : Hid (Rgs S') := Lib.hid (fun z hz => HV.out.rng z (by simp [hz]))
      have hl8 : (S' ++ [id]).length = S'.length + 1 := by simp
      have o8 := HV.out.own8
      rw [List.concat_eq_append] at o8 hge hln
      rw [hl8] at o8 hge
      obtain ⟨q, hq⟩ : ∃ q, q = S'.length := ⟨_, rfl⟩
      rw [← hq] at o8 hge
      have HEq : Hid (undL L xs = (pre ++ [id]) ++ (S' ++ (chF L id).reverse).reverse.flatMap (beh L)) := Lib.hid (by
        rw [HV.out.eq, List.concat_eq_append, List.reverse_append, List.reverse_append, List.reverse_reverse, List.reverse_singleton, List.singleton_append, List.flatMap_cons, List.flatMap_append, beh_eq HW.out id]
        simp)
      have HFar := Lib.hid HV.out.far
      rcases o8.2 with ⟨_, k0⟩ | ⟨b8, cap8, cur8, hv8, _⟩
      · omega
      · subst hv8
        have cid : wr.cell? ⟨b8, q, none⟩ = some (.int .i64 id) := o8.at_ (by rw [hq]; simp)
        have hb8 := (o8.lt _ rfl).2
        have hc8 : q + 1 ≤ cap8 := by obtain ⟨_, _, _, _, z, _⟩ := o8.cells; exact z
        have O8 := Lib.hid (show OwnD wr w.heap.size (.slice (some ⟨b8, 0, none⟩) q cap8) q S' from by
          have := o8.cut (k := q) (by omega)
          rwa [List.take_left' hq.symm] at this)
        have O5 := Lib.hid HV.out.own5
        have HB := Lib.hid HV.out.low
        obtain ⟨m5, hm5⟩ : ∃ m5, m5 = pre.length := ⟨_, rfl⟩
        rw [← hm5] at O5 hln hqv
        have hlt5 : m5 < N := by omega
        have hm5b : m5 ≤ 2000 := by omega
        have hqb : q ≤ 2000 := by omega
        subst hqv
        clear o8 HV hl8 hq hrid hm5 hln hge
        have w1 : IntKind.i64.wrap (((q + 1 : Nat) : Int) - 1) = (q : Int) := by rw [IntKind.wrap_i64]; omega
        have z0 : ¬ (((q + 1 : Nat) : Int) = 0) := by omega
        have z1 : (0 : Int) ≤ (q : Int) := by omega
        have z2 : (q : Int) < ((q + 1 : Nat) : Int) := by omega
        have z3 : (q : Int) ≤ (cap8 : Int) := by omega
        obtain ⟨q1, hq1⟩ : ∃ q1, q1 = q + 1 := ⟨_, rfl⟩
        rw [← hq1] at w1 z0 z2 ⊢
        have hq1b : q1 ≤ 2001 := by omega
        clear hq1
        go_wp2
        go_quiet (fail)
        refine fin (fun W => OwnD W w.heap.size (.slice (some ⟨b8, 0, none⟩) q cap8) q S' ∧ OwnD W w.heap.size (.slice qa m5 qcap) m5 pre ∧ Below w.heap.size w W) ⟨O8.out.keep (Go.below_drewN (Below.refl _ _) nq), O5.out.keep (Go.below_drewN (Below.refl _ _) nq), Go.below_drewN HB.out nq⟩ ?_
        clear O8 O5 HB cid hb8
        rintro W ⟨o8, o5, hbw⟩
        have O8 := Lib.hid o8
        have O5 := Lib.hid o5
        have HB := Lib.hid hbw
        have hsW := hbw.size
        clear o8 o5 hbw
        go_wp2_with (at_builtin; refine wpList_append_own_at _ rfl (.tmp 31) (.tmp 33) 24 rfl w.heap.size 41 i0 (.int .i64 0) 1 8 Tryz.underlying24 HI.out.1 HI.out.2.1 HI.out.2.2.1 HI.out.2.2.2 rfl (by decide) _ _ _ rfl (O5.out.alloc _) ⟨W.heap.size, 0, none⟩ 1 1 [.int .i64 id] rfl rfl (cell_one_new _ _ _) (by intro u hu; simp at hu; subst hu; rfl) (by unfold maxLen; omega) (by omega) (by simp; omega) ?_)
        intro v5' W2 k1 k2 _ k4
        have O5b : Hid (OwnD W2 w.heap.size v5' (m5 + 1) (pre ++ [id])) := Lib.hid (by unfold OwnD; rw [List.map_append]; exact k1)
        have HB2 := Lib.hid (grownD_below O5.out (Nat.le_refl _) HB.out hsW k2)
        have O8b : Hid (OwnD W2 w.heap.size (.slice (some ⟨b8, 0, none⟩) q cap8) q S') := Lib.hid (by
          have hal : Below W.heap.size W (W.alloc (.cells #[.int .i64 id] 41)) := alloc_below _ _
          have o := O8.out.keep hal
          exact o.same (fun b e => k2.block b (o.lt b e).2 (fun e2 => HFar.out b e2.symm e)))
        have HFar2 : Hid (∀ b, v5'.ownBlock = some b → b ≠ b8) := Lib.hid (fun b e e2 => by
          rcases k4 with c | c
          · exact HFar.out b (c ▸ e) (by rw [e2]; rfl)
          · rw [c] at e
            injection e with e
            have h1 := (O8.out.lt b8 rfl).2
            have h2 : W.heap.size ≤ (W.alloc (.cells #[.int .i64 id] 41)).heap.size := (alloc_below W _).size
            omega)
        have hs2 := HB2.out.size
        obtain ⟨a5, c5, hv5, -⟩ := O5b.out.row
        subst hv5
        have HLt : Hid ((∀ b, (Value.slice a5 (m5 + 1) c5).ownBlock = some b → b < W2.heap.size) ∧ b8 < W2.heap.size) := Lib.hid ⟨fun b e => (O5b.out.lt b e).2, (O8b.out.lt b8 rfl).2⟩
        clear k1 k2 k4 O8 O5 HB HFar
        have HC := Lib.hid (HCh.out W2 id HB2.out HRid.out)
        go_wp2_with fail
        refine HC.out.mono ?_
        rintro e W3 ⟨v6b, rfl, o6, b3⟩
        have HRv := Lib.hid (rev9_any o6)
        have O6 := Lib.hid o6
        replace O5b := Lib.hid (O5b.out.keep b3)
        replace O8b := Lib.hid (O8b.out.keep b3)
        obtain ⟨xa, xcap, hx6, -⟩ := o6.row
        subst hx6
        have HB3 := Lib.hid (bthen HB2.out b3)
        have hs3 := HB3.out.size
        have hs23 := b3.size
        clear o6 b3 HC
        obtain ⟨mk, hmk⟩ : ∃ mk, mk = (chF L id).length := ⟨_, rfl⟩
        have hmk2 := chF_len L id
        rw [← hmk] at hmk2 HRv O6 ⊢
        clear hmk
        go_wp2_with fail
        refine HRv.out.mono ?_
        rintro e W4 ⟨rfl, o6, g4⟩
        have HB4 := Lib.hid (own_below9 O6.out hs2 HB3.out g4)
        have hs4 := HB4.out.size
        have O5d : Hid (OwnD W4 w.heap.size (.slice a5 (m5 + 1) c5) (m5 + 1) (pre ++ [id])) := Lib.hid (O5b.out.same (fun b e => g4.block b (O5b.out.lt b e).2 (fun e2 => by
          have h1 := (O6.out.lt b e2.symm).1
          have h2 := HLt.out.1 b e
          omega)))
        have O8d : Hid (OwnD W4 w.heap.size (.slice (some ⟨b8, 0, none⟩) q cap8) q S') := Lib.hid (O8b.out.same (fun b e => g4.block b (O8b.out.lt b e).2 (fun e2 => by
          have h1 := (O6.out.lt b e2.symm).1
          injection e with e
          have e : b8 = b := e
          have h2 := HLt.out.2
          omega)))
        have HX : Hid (Row W4 xa mk (chF L id).reverse) := Lib.hid (by
          obtain ⟨xa2, xcap2, e9, r9⟩ := o6.row
          injection e9 with e9 _ _
          rw [e9]
          exact r9)
        clear o6 g4 O6 O5b O8b HRv HB3 HB2
        go_wp2_with (at_builtin; refine wpList_cat9_at rfl (.tmp 40) (.tmp 41) rfl w.heap.size q _ S' rfl O8d.out xa mk xcap (chF L id).reverse rfl HX.out (by omega) (by omega) hs4 ?_)
        intro v8' W5 k1 k2 k3
        have HF : Hid (UInv w W5 L xs (.slice a5 (m5 + 1) c5) v8' (pre ++ [id]) (S' ++ (chF L id).reverse)) := Lib.hid (by
          have hl9 : (S' ++ (chF L id).reverse).length = q + mk := by
            have := k1.len
            exact this
          have hp9 : (pre ++ [id]).length = m5 + 1 := O5d.out.len
          refine ⟨HEq.out, ?_, by rw [hl9]; exact k1, fun b e e2 => ?_, own_below9 O8d.out (Nat.le_refl _) HB4.out k2, fun z hz => ?_⟩
          · rw [hp9]
            exact O5d.out.same (fun b e => k2.block b (O5d.out.lt b e).2 (fun e2 => by injection e2 with e2; exact HFar2.out b e e2))
          · rcases k3 with c | c
            · rw [c] at e2
              injection e2 with e2
              exact HFar2.out b e e2.symm
            · rw [c] at e2
              injection e2 with e2
              have := (O5d.out.lt b e).2
              omega
          · rcases List.mem_append.1 hz with hz | hz
            · exact HRS.out z hz
            · exact HCr.out id z (List.mem_reverse.1 hz))
        clear k1 k2 k3 O5d O8d HX HB4
        go_wp2
        go_step3
        refine ⟨rfl, ⟨pre ++ [id], S' ++ (chF L id).reverse, _, _, _, _, _, _, _, _, _, _, _, _, _, _, _, _, _, _, _, _, _, _, _, _, _, _, _, _, _, _, _, _, _, _, _, _, _, _, rfl, HF.out⟩, ?_⟩
        show N - (m5 + 1) < N - m5
        omega
  · intro hrest
    have HRest := Lib.hid hrest
    clear hrest
    go_wp2_with fail
    refine HTo.out.mono ?_
    rintro e w1 ⟨v8, rfl, o8, b1⟩
    have HRv := Lib.hid (rev9_any o8)
    have O8 := Lib.hid o8
    have HB1 := Lib.hid b1
    clear o8 b1 HTo
    go_wp2_with fail
    refine HRv.out.mono ?_
    rintro e w2 ⟨rfl, o8, g2⟩
    have HF : Hid (UInv w w2 L xs (.slice none 0 0) v8 [] (topL L xs).reverse) := Lib.hid ⟨by rw [HUt.out, List.reverse_reverse]; rfl, OwnD.nil _ _, by rw [List.length_reverse]; exact o8, fun b e => (by cases e), own_below9 O8.out (Nat.le_refl _) HB1.out g2, fun z hz => HTr.out z (List.mem_reverse.1 hz)⟩
    clear o8 g2 HRv O8 HB1
    go_wp2
    go_step3
    rename_i K9 hK9 
    refine hK9 _ _ ?_
    exact HRest.out _ _ ⟨[], (topL L xs).reverse, _, _, _, _, _, _, _, _, _, _, _, _, _, _, _, _, _, _, _, _, _, _, _, _, _, _, _, _, _, _, _, _, _, _, _, _, _, _, rfl, HF.out⟩
end
end Go.Proofs.YtdndafdninnjfaaGreat
