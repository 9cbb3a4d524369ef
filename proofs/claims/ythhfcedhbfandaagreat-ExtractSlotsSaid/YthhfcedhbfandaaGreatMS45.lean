/-
  5 texts in one file, each with its own heading.
-/
import Derived.Test.YthhfcedhbfandaaGreatMS44
import Derived.Test.YthhfcedhbfandaaGreatMS35
import Derived.Test.YthhfcedhbfandaaGreatRows
import Derived.OpenShut
import Derived.JoinedOf
/-
  The landed flow: Drop.
-/
namespace Go.Proofs.YthhfcedhbfandaaGreat
open Go.RowKit

section
variable {w : World} {p : Wp} {D : FD}
theorem lfdrop_chain {u : World} {q : Wp} (hch : ChL w u p q) (hD : DOk D) (hL : LIf D q) {x : Int} (hx : Rg x) (hd : dropFB D x = true) (hDl : D.L.length ≤ 300) :
    u.cell? ⟨q.g, 0, none⟩ = some (.pointer (some ⟨q.gf, 0, none⟩)) ∧ q.g < u.heap.size ∧ Calls Tryz.prog 121 #[.pointer (some ⟨q.gf, 0, none⟩), .int .i64 x] u fun e w1 => ∃ a n cap, e = .returned (.slice a n cap) ∧
      Calls Tryz.prog 120 #[.pointer (some ⟨q.g, 0, none⟩), .slice a n cap] w1 fun e w2 => e = .returned (.tuple #[]) ∧ w2.cell? ⟨q.g, 0, none⟩ = some (.pointer (some ⟨q.gf, 0, none⟩)) ∧ q.g < w2.heap.size ∧
        Calls Tryz.prog 95 #[.pointer (some ⟨q.gf, 0, none⟩), .slice (some ⟨w2.heap.size, 0, none⟩) 1 1] (w2.alloc (.cells #[.int .i64 x] 81)) fun e w3 => ∃ z, e = .returned (.int .i64 z) ∧
          ∃ w4 w5 w6 q', w3.cell? ⟨q.g, 1, none⟩ = some (.map (some q.gn)) ∧ q.g < w3.heap.size ∧ (∀ ty, (Builtin.delete_ #[197, 81] ty #[.map (some q.gn), .int .i64 x]).run Tryz.prog w3 = .ok (.tuple #[]) w4) ∧
            w4.cell? ⟨q.g, 2, none⟩ = some (.map (some q.gs)) ∧ q.g < w4.heap.size ∧ (∀ ty, (Builtin.delete_ #[198, 81] ty #[.map (some q.gs), .int .i64 x]).run Tryz.prog w4 = .ok (.tuple #[]) w5) ∧
            w5.cell? ⟨q.g, 3, none⟩ = some (.map (some q.gm)) ∧ q.g < w5.heap.size ∧ (∀ ty, (Builtin.delete_ #[199, 81] ty #[.map (some q.gm), .int .i64 x]).run Tryz.prog w5 = .ok (.tuple #[]) w6) ∧
            q'.g = q.g ∧ ChL w w6 p q' ∧ LIf (dropFD D x) q' := by
  have h := hch.1
  have hTl := hL.len
  refine ⟨h.cells.1, h.cells.2.2.2.2.2, ?_⟩
  obtain ⟨gp, gc, bl, cp, hf1, _⟩ := h.fo
  refine (lchildren_any hf1 (show q.T.length ≤ 1000 by omega) hx).mono ?_
  rintro e w1 ⟨v, rfl, hown, hb1⟩
  obtain ⟨a, cap, rfl, hrow⟩ := hown.row
  have h1 := h.keep hb1
  have haw : Aw (footL q) a (chF q.T x).length := by
    by_cases z : (chF q.T x).length = 0
    · exact Or.inl z
    · refine Or.inr (fun ad e hf => ?_)
      have k1 := h.inb _ hf
      have k2 := (World.ownsRow.lt hown ad.block (by rw [e]; rfl)).1
      omega
  have hrg : Rgs (chF q.T x) := fun z hz => ch_rng hL.wf.1 hf1.rng hz
  refine ⟨a, _, cap, rfl, (lfmark_any h1 (by have := chF_len q.T x; omega) hrow haw hrg (D.L.map Nd.id) (fun y hy => el_id.1 ((hL.mrk y).1 hy).1) (by rw [List.length_map]; omega)).mono ?_⟩
  rintro e w2 ⟨rfl, hc2⟩
  have c2 := hc2.1.cells
  refine ⟨rfl, c2.1, c2.2.2.2.2.2, (hc2.1.free1 hL.wf (show q.T.length ≤ 1000 by omega) hx).mono ?_⟩
  rintro e w3 ⟨z, rfl, Ff, hc3⟩
  obtain ⟨w4, r4, m4, g4⟩ := hc3.1.nod.del hx
  have hc4 := hc3.1.setN m4 g4
  obtain ⟨w5, r5, m5, g5⟩ := hc4.1.sts.del hx
  have hc5 := hc4.1.setS m5 g5
  obtain ⟨w6, r6, m6, g6⟩ := hc5.1.mrk.del hx
  have hc6 := hc5.1.setM m6 g6
  refine ⟨z, rfl, w4, w5, w6, dropP q x Ff, hc3.1.cells.2.1, hc3.1.cells.2.2.2.2.2, r4, hc4.1.cells.2.2.1, hc4.1.cells.2.2.2.2.2, r5, hc5.1.cells.2.2.2.1, hc5.1.cells.2.2.2.2.2, r6, rfl, ?_, hL.drop hD hd Ff⟩
  exact (((((hch.join (ChL.still h hb1)).join hc2).join hc3).join hc4).join hc5).join hc6
set_option maxHeartbeats 8000000 in
set_option maxRecDepth 100000 in
theorem lfdrop_any (hD : DOk D) (hL : LIf D p) (h : LW w p) {a : Option Addr} {n cap : Nat} {xs : List Int} (row : Row w a n xs) (ha : Aw (footL p) a n) (hx : Rgs xs) (hn : n ≤ 1000) (hDl : D.L.length ≤ 300) :
    Calls Tryz.prog 69 #[.pointer (some ⟨p.g, 0, none⟩), .slice a n cap] w fun e w' => e = .returned (.int .i64 (dropN D xs : Nat)) ∧ ∃ q, q.g = p.g ∧ ChL w w' p q ∧ LIf (dropS D xs) q := by
  have hbig := row.2.1
  have HLen := Lib.hid row.1
  have HRow : Hid (∀ u q, ChL w u p q → Row u a n xs) := Lib.hid (fun u q k => row_frame row ha k.2.1)
  have HSt : Hid (∃ q, q.g = p.g ∧ ChL w w p q ∧ LIf (dropS D (xs.take 0)) q) := Lib.hid ⟨p, rfl, ChL.still h (Below.refl _ _), hL⟩
  have HHas : Hid (∀ u q j z, q.g = p.g → ChL w u p q → LIf (dropS D (xs.take j)) q → Rg z → Calls Tryz.prog 119 #[.pointer (some ⟨p.g, 0, none⟩), .int .i64 z] u fun e w' => e = .returned (.bool (dropFB (dropS D (xs.take j)) z)) ∧ ChL w w' p q) := Lib.hid (fun u q j z e k hq hz => by
    rw [← e]
    refine (lfhas_any k.1 hz).mono ?_
    rintro e w' ⟨rfl, hb⟩
    refine ⟨?_, k.behind hb⟩
    rw [hq.nodS]
    rfl)
  have HCh : Hid (∀ u q j z, q.g = p.g → ChL w u p q → LIf (dropS D (xs.take j)) q → xs[j]? = some z → dropFB (dropS D (xs.take j)) z = true → u.cell? ⟨p.g, 0, none⟩ = some (.pointer (some ⟨q.gf, 0, none⟩)) ∧ p.g < u.heap.size ∧ Calls Tryz.prog 121 #[.pointer (some ⟨q.gf, 0, none⟩), .int .i64 z] u fun e w1 => ∃ a n cap, e = .returned (.slice a n cap) ∧
      Calls Tryz.prog 120 #[.pointer (some ⟨p.g, 0, none⟩), .slice a n cap] w1 fun e w2 => e = .returned (.tuple #[]) ∧ w2.cell? ⟨p.g, 0, none⟩ = some (.pointer (some ⟨q.gf, 0, none⟩)) ∧ p.g < w2.heap.size ∧
        Calls Tryz.prog 95 #[.pointer (some ⟨q.gf, 0, none⟩), .slice (some ⟨w2.heap.size, 0, none⟩) 1 1] (w2.alloc (.cells #[.int .i64 z] 81)) fun e w3 => ∃ y, e = .returned (.int .i64 y) ∧
          ∃ w4 w5 w6, w3.cell? ⟨p.g, 1, none⟩ = some (.map (some q.gn)) ∧ p.g < w3.heap.size ∧ (∀ ty, (Builtin.delete_ #[197, 81] ty #[.map (some q.gn), .int .i64 z]).run Tryz.prog w3 = .ok (.tuple #[]) w4) ∧
            w4.cell? ⟨p.g, 2, none⟩ = some (.map (some q.gs)) ∧ p.g < w4.heap.size ∧ (∀ ty, (Builtin.delete_ #[198, 81] ty #[.map (some q.gs), .int .i64 z]).run Tryz.prog w4 = .ok (.tuple #[]) w5) ∧
            w5.cell? ⟨p.g, 3, none⟩ = some (.map (some q.gm)) ∧ p.g < w5.heap.size ∧ (∀ ty, (Builtin.delete_ #[199, 81] ty #[.map (some q.gm), .int .i64 z]).run Tryz.prog w5 = .ok (.tuple #[]) w6) ∧
            ∃ q', q'.g = p.g ∧ ChL w w6 p q' ∧ LIf (dropS D (xs.take (j + 1))) q') := Lib.hid (fun u q j z e k hq hz hd => by
    have hs := (drops_size (xs.take j) D 300 hDl).1
    obtain ⟨c1, c2, c3⟩ := lfdrop_chain k (DOk.drops _ hD) hq (hx z (List.mem_of_getElem? hz)) hd (by omega)
    rw [e] at c1 c2 c3
    refine ⟨c1, c2, c3.mono ?_⟩
    rintro e1 w1 ⟨a, n, cap, rfl, h2⟩
    refine ⟨a, n, cap, rfl, h2.mono ?_⟩
    rintro e2 w2 ⟨rfl, d1, d2, h3⟩
    refine ⟨rfl, d1, d2, h3.mono ?_⟩
    rintro e3 w3 ⟨y, rfl, w4, w5, w6, q', k1, k2, k3, k4, k5, k6, k7, k8, k9, k10, k11, k12⟩
    refine ⟨y, rfl, w4, w5, w6, k1, k2, k3, k4, k5, k6, k7, k8, k9, q', k10, k11, ?_⟩
    rw [dropS_snoc hz]
    exact k12)
  have HNo : Hid (∀ j z, xs[j]? = some z → dropFB (dropS D (xs.take j)) z = false → dropS D (xs.take (j + 1)) = dropS D (xs.take j)) := Lib.hid (fun j z hz hd => by
    rw [dropS_snoc hz]
    unfold dropFD
    rw [if_neg (by rw [hd]; simp)])
  have HCnt : Hid (∀ j z, xs[j]? = some z → dropN D (xs.take (j + 1)) = dropN D (xs.take j) + (if dropFB (dropS D (xs.take j)) z then 1 else 0)) := Lib.hid (fun j z hz => dropN_snoc hz)
  have HCl : Hid (∀ j, dropN D (xs.take j) ≤ 1000) := Lib.hid (fun j => by
    have h1 := dropN_le (xs.take j) D
    have h2 := row.1
    rw [List.length_take] at h1
    omega)
  have HRg := Lib.hid hx
  obtain ⟨g, hge⟩ : ∃ g, g = p.g := ⟨_, rfl⟩
  rw [← hge] at HSt HHas HCh ⊢
  clear h row ha hx hD hL hDl hge
  go_enter Tryz.func69, Tryz.ntmps69
  go_wp2
  go_loopw [5, 7, 12] (fun v5 _ i wr => ∃ (j : Nat) (q : Wp), j ≤ n ∧ i = .int .i64 j ∧ v5 = .int .i64 (dropN D (xs.take j) : Nat) ∧ q.g = g ∧ ChL w wr p q ∧ LIf (dropS D (xs.take j)) q) (fun _ _ i _ => n - (ivl i).toNat)
  case atStart =>
    obtain ⟨q, h1, h2, h3⟩ := HSt.out
    exact ⟨0, q, by omega, rfl, rfl, h1, h2, h3⟩
  case round =>
    clear HSt
    obtain ⟨j, q, hj, rfl, rfl, hqg, hch, hli⟩ := hrel
    have hrw := HRow.out wr q hch
    have HC := Lib.hid hch
    have HLI := Lib.hid hli
    have HQ := Lib.hid hqg
    have hcl := HCl.out j
    clear hch hli hqg
    by_cases hlt : j < n
    · obtain ⟨b, off, z, rfl, hz, cz⟩ := row_at hrw hlt
      have hbl := World.block_lt_of_cell? _ _ cz
      have HZ := Lib.hid hz
      have HH := Lib.hid (HHas.out wr q j z HQ.out HC.out HLI.out (HRg.out z (List.mem_of_getElem? hz)))
      have HSn := Lib.hid (HCnt.out j z hz)
      obtain ⟨cn, hcn⟩ : ∃ cn, cn = dropN D (xs.take j) := ⟨_, rfl⟩
      rw [← hcn] at hcl HSn ⊢
      obtain ⟨df, hdf⟩ : ∃ df, df = dropFB (dropS D (xs.take j)) z := ⟨_, rfl⟩
      rw [← hdf] at HH HSn
      have HDf := Lib.hid hdf.symm
      have j0 : (0 : Int) ≤ (j : Int) := by omega
      have j1 : (j : Int) < (n : Int) := by omega
      clear hrw hz hcn hdf HC
      go_wp2_with fail
      refine HH.out.mono ?_
      rintro e w1 ⟨rfl, hc1⟩
      have HC1 := Lib.hid hc1
      clear hc1 HH
      cases df with
      | false =>
        have HE : Hid (LIf (dropS D (xs.take (j + 1))) q) := Lib.hid (by rw [HNo.out j z HZ.out HDf.out]; exact HLI.out)
        go_wp2
        go_roundw
        case rel => exact ⟨j + 1, q, by omega, by go_num, by rw [HSn.out]; rfl, HQ.out, HC1.out, HE.out⟩
        case measure => simp [ivl] <;> omega
      | true =>
        obtain ⟨c0, hg, hcc⟩ := HCh.out w1 q j z HQ.out HC1.out HLI.out HZ.out HDf.out
        have HCc := Lib.hid hcc
        obtain ⟨gf, hgf⟩ : ∃ gf, gf = q.gf := ⟨_, rfl⟩
        obtain ⟨gn, hgn⟩ : ∃ gn, gn = q.gn := ⟨_, rfl⟩
        obtain ⟨gs, hgs⟩ : ∃ gs, gs = q.gs := ⟨_, rfl⟩
        obtain ⟨gm, hgm⟩ : ∃ gm, gm = q.gm := ⟨_, rfl⟩
        rw [← hgf] at HCc c0
        rw [← hgn, ← hgs, ← hgm] at HCc
        clear hcc hgf hgn hgs hgm
        go_wp2_with fail
        refine HCc.out.mono ?_
        rintro e w2 ⟨ka, kn, kc, rfl, hm⟩
        have HM := Lib.hid hm
        clear hm HCc c0 hg
        go_wp2_with fail
        refine HM.out.mono ?_
        rintro e w3 ⟨rfl, c0, hg, hf⟩
        have HF := Lib.hid hf
        clear hf HM
        go_wp2_with fail
        refine HF.out.mono ?_
        rintro e w4 ⟨y, rfl, w5, w6, w7, c1, z1, r1, c2, z2, r2, c3, z3, r3, hq⟩
        have HQ2 := Lib.hid hq
        clear hq HF c0 hg
        go_wp2_with (at_builtin; first | refine wpList_del9 rfl (.tmp 38) (.tmp 39) 197 81 rfl _ _ rfl rfl (r1 _) ?_ | refine wpList_del9 rfl (.tmp 43) (.tmp 44) 198 81 rfl _ _ rfl rfl (r2 _) ?_ | refine wpList_del9 rfl (.tmp 48) (.tmp 49) 199 81 rfl _ _ rfl rfl (r3 _) ?_)
        obtain ⟨q', hq1, hq2, hq3⟩ := HQ2.out
        have HE := Lib.hid (And.intro hq1 (And.intro hq2 hq3))
        clear hq1 hq2 hq3 HQ2
        go_roundw
        case rel => exact ⟨j + 1, q', by omega, by go_num, by rw [HSn.out]; go_num, HE.out⟩
        case measure => simp [ivl] <;> omega
    · obtain rfl : j = n := by omega
      have e0 : xs.take j = xs := List.take_of_length_le (by rw [HLen.out]; exact Nat.le_refl _)
      rw [e0] at HLI hcl ⊢
      have HE := Lib.hid (And.intro HQ.out (And.intro HC.out HLI.out))
      have j1 : ¬ (j : Int) < (j : Int) := by omega
      clear e0 hrw HC HLI HQ
      go_wp2
      go_ret
      exact ⟨rfl, q, HE.out⟩
end
theorem wpList_clr9 {ops : Array Oper} {rest : List Oper} {op : Oper} {a : Go.Act} {w w' : World} {Q : Exit → Go.Act → World → Prop} (hgd : op.guard = none) (tm : Operand) (t : TypeId)
    (ho : op.op = .call { callee := .builtin .clear, args := #[tm], argTypes := #[t] }) (v : Value) (hm : a.eval tm = v)
    (hr : (Builtin.clear_ #[t] op.type #[v]).run Tryz.prog w = .ok (.tuple #[]) w') (h : wpList Tryz.prog ops Q rest (a.put op.dst (.tuple #[])) w') : wpList Tryz.prog ops Q (op :: rest) a w := by
  refine wpList_plain hgd fun K hK => ?_
  have h3 := hK _ _ h
  unfold Oper.wp execOp
  simp only [ho, resolve, invoke, builtin, Sem.run_bind, Sem.run_pure, Result.andThen_ok, List.map_toArray, List.map_cons, List.map_nil, hm, hr]
  exact h3
theorem lres_frame {w u u' : World} {F : Nat → Prop} {xs : List Int} {v : Value} (h : LRes w u xs v) (hin : ∀ b, F b → b < w.heap.size) (hf : Fr u u' F) : LRes w u' xs v := by
  obtain ⟨a, cap, e, hr, hn⟩ := h
  refine ⟨a, cap, e, row_frame hr ?_ hf, hn⟩
  rcases hn with c | c
  · exact Or.inl c
  · exact Or.inr (fun ad e hfb => by have := hin _ hfb; have := c ad e; omega)
theorem names_up {L : List Nd} (h : (L.map Nd.id).Nodup) : (namesN L).Pairwise (· < ·) := by
  have h1 : (namesN L).Pairwise (· ≤ ·) := sortI_up _
  have h2 : (namesN L).Nodup := (sortI_perm _).nodup_iff.2 h
  have h3 : (namesN L).Pairwise (· ≠ ·) := h2
  exact (h1.and h3).imp (fun {a b} c => by omega)
section
variable {w : World} {p : Wp} {D : FD}
theorem LIf.names (hD : DOk D) (hL : LIf D p) (z : Int) : z ∈ namesN D.L ↔ Rg z ∧ (p.N z).isSome = true := by
  rw [hL.nodS, mem_names]
  constructor
  · intro h
    obtain ⟨n, hn, e⟩ := el_isSome.1 h
    exact ⟨by rw [← e]; exact (hD.rg n hn).1, h⟩
  · exact And.right
theorem lftouch_chain (hD : DOk D) (hL : LIf D p) (h : LW w p) (hDl : D.L.length ≤ 300) {V : World} (hV : Below w.heap.size w V) :
    V.cell? ⟨p.g, 0, none⟩ = some (.pointer (some ⟨p.gf, 0, none⟩)) ∧ V.cell? ⟨p.g, 3, none⟩ = some (.map (some p.gm)) ∧ Calls Tryz.prog 130 #[.map (some p.gm)] V fun e w1 => ∃ f, e = .returned f ∧ w1.cell? ⟨p.g, 0, none⟩ = some (.pointer (some ⟨p.gf, 0, none⟩)) ∧ w1.cell? ⟨p.g, 3, none⟩ = some (.map (some p.gm)) ∧
      Calls Tryz.prog 123 #[f] w1 fun e w2 => ∃ a n cap, e = .returned (.slice a n cap) ∧ w2.cell? ⟨p.g, 0, none⟩ = some (.pointer (some ⟨p.gf, 0, none⟩)) ∧ w2.cell? ⟨p.g, 3, none⟩ = some (.map (some p.gm)) ∧
        Calls Tryz.prog 129 #[.pointer (some ⟨p.gf, 0, none⟩), .slice a n cap] w2 fun e w3 => ∃ v, e = .returned v ∧ w3.cell? ⟨p.g, 0, none⟩ = some (.pointer (some ⟨p.gf, 0, none⟩)) ∧ w3.cell? ⟨p.g, 3, none⟩ = some (.map (some p.gm)) ∧ LRes w w3 (touchN D) v ∧ CapOk v ∧ Below w.heap.size w w3 := by
  have hv := h.keep hV
  have hTl := hL.len
  have hKn : ∀ z, z ∈ cmpS (dirtyN D) ↔ Rg z ∧ (p.M z).isSome = true := fun z => by
    rw [mem_cmpS, ← hL.mark_dirty]
    refine ⟨fun q => ⟨?_, q⟩, And.right⟩
    obtain ⟨n, hn, e⟩ := el_isSome.1 ((hL.mrk z).1 q).1
    rw [← e]
    exact (hD.rg n hn).1
  have hKl : (cmpS (dirtyN D)).length ≤ D.L.length := by
    have := pigeon (m := D.L.map Nd.id) (up_nod (cmpS_up (dirtyN D))) (fun z hz => el_id.1 (dirty_node (mem_cmpS.1 hz)))
    rwa [List.length_map] at this
  refine ⟨hv.cells.1, hv.cells.2.2.2.1, (keysX9 (some p.gm) V).mono ?_⟩
  rintro e w1 ⟨rfl, rfl⟩
  have hal : Below V.heap.size V (V.alloc (.cells #[.map (some p.gm)] 199)) := alloc_below _ _
  have h1 := hv.keep hal
  refine ⟨_, rfl, h1.cells.1, h1.cells.2.2.2.1, (sortedX9 hv.mrk (cmpS (dirtyN D)) (cmpS_up _) hKn).mono ?_⟩
  rintro e w2 ⟨v, rfl, hown, hb2⟩
  obtain ⟨a, cap, rfl, hrow⟩ := hown.row
  have h2 := hv.keep hb2
  refine ⟨a, _, cap, rfl, h2.cells.1, h2.cells.2.2.2.1, ?_⟩
  obtain ⟨gp, gc, bl, cp, hf1, _⟩ := h2.fo
  refine (lunder_any (cap := cap) hf1 hL.wf (by omega) (by omega) hrow (fun z hz => ((hKn z).1 hz).1)).mono ?_
  rintro e w3 ⟨v, rfl, hlr, hcp, hb3⟩
  have h3 := h2.keep hb3
  refine ⟨v, rfl, h3.cells.1, h3.cells.2.2.2.1, ?_, hcp, bthen (bthen hV hb2) hb3⟩
  have ht : undL p.T (cmpS (dirtyN D)) = touchN D := hL.touch hD (fun z => by rw [mem_cmpS, hL.mark_dirty])
  rw [ht] at hlr
  obtain ⟨a3, c3, e3, r3, n3⟩ := hlr
  have hs := (bthen hV hb2).size
  exact ⟨a3, c3, e3, r3, n3.imp id (fun q ad e => by have := q ad e; omega)⟩
set_option maxHeartbeats 8000000 in
set_option maxRecDepth 100000 in
theorem lfrun_any (hD : DOk D) (hL : LIf D p) (h : LW w p) (hDl : D.L.length ≤ 300) (hst : D.steps ≤ 1000000) :
    Calls Tryz.prog 72 #[.pointer (some ⟨p.g, 0, none⟩)] w fun e w' => ∃ v, e = .returned (.tuple #[v, .int .i64 (runE D)]) ∧ LRes w w' (touchN D) v ∧ CapOk v ∧ ∃ q, q.g = p.g ∧ footL q = footL p ∧ ChL w w' p q ∧ LIf (runD D) q := by
  have HTo := Lib.hid (lftouch_chain hD hL h hDl (below_drew9f w))
  have htl := touch_len hD.wf
  have hpst := hL.st
  have HSp : Hid (∀ W a n cap, Below w.heap.size w W → LRes w W (touchN D) (.slice a n cap) → n = (touchN D).length → W.cell? ⟨p.g, 4, none⟩ = some (.int .i64 p.st) ∧ W.frozen? ⟨p.g, 4, none⟩ = false ∧ p.g < W.heap.size ∧ ∀ z, z = ((p.st + n : Nat) : Int) → Calls Tryz.prog 131 #[.pointer (some ⟨p.g, 0, none⟩), .slice a n cap] (W.setCell ⟨p.g, 4, none⟩ (.int .i64 z)) fun e w' => e = .returned (.int .i64 (runE D)) ∧ ChL w w' p (runP p (remS D.L (touchN D) p.S n) p.M (p.st + n)) ∧ LRes w w' (touchN D) (.slice a n cap)) := Lib.hid (fun W a n cap hb hlr hn => by
    have h1 := h.keep hb
    refine ⟨h1.cells.2.2.2.2.1, h1.blk.frozen 4, h1.cells.2.2.2.2.2, fun z hz => ?_⟩
    have hc1 := (ChL.still h hb).join (h1.setT (p.st + n) hz)
    have hlr1 := lres_frame hlr h.inb (h1.setT (p.st + n) hz).2.1
    obtain ⟨a', c', e', r', n'⟩ := hlr1
    injection e' with e1 e2 e3
    subst e1 e3
    have hli : LIf { D with steps := p.st + n } { p with st := p.st + n } := ⟨hL.wf, hL.par, hL.nod, hL.mrk, hL.non, hL.sts, rfl⟩
    have hdk : DOk { D with steps := p.st + n } := ⟨hD.nod, hD.wf, hD.ok, hD.nn, hD.rg, hD.st⟩
    have haw : Aw (footL p) a (touchN D).length := by
      rcases n' with c | c
      · exact Or.inl c
      · exact Or.inr (fun ad e hf => by have := h.inb _ hf; have := c ad e; omega)
    rw [hn]
    have hc := lfremake_any (cap := cap) hdk hli hc1.1 (by show D.L.length ≤ 900; omega) r' haw
    refine hc.mono ?_
    rintro e w' ⟨rfl, hch⟩
    refine ⟨rfl, ?_, a, cap, rfl, row_frame r' haw hch.2.1, n'⟩
    have := hc1.join hch
    rw [hn] at this
    exact this)
  have HClr : Hid (∀ u n, n = (touchN D).length → ChL w u p (runP p (remS D.L (touchN D) p.S n) p.M (p.st + n)) → runE D = 0 → u.cell? ⟨p.g, 3, none⟩ = some (.map (some p.gm)) ∧ p.g < u.heap.size ∧ ∃ w2, (∀ ty, (Builtin.clear_ #[199] ty #[.map (some p.gm)]).run Tryz.prog u = .ok (.tuple #[]) w2) ∧ Fr u w2 (footL p) ∧ ∃ q, q.g = p.g ∧ footL q = footL p ∧ ChL w w2 p q ∧ LIf (runD D) q) := Lib.hid (fun u n hn k h0 => by
    obtain ⟨w2, r2, m2, g2⟩ := k.1.mrk.clear
    have hc := k.1.setM m2 g2
    refine ⟨k.1.cells.2.2.2.1, k.1.cells.2.2.2.2.2, w2, r2, hc.2.1, runP p (remS D.L (touchN D) p.S n) (fun _ => none) (p.st + n), rfl, rfl, k.join hc, ?_⟩
    rw [hn]
    exact hL.runOk hD h0)
  have HNd : Hid (∀ u n, n = (touchN D).length → ChL w u p (runP p (remS D.L (touchN D) p.S n) p.M (p.st + n)) → runE D ≠ 0 → Calls Tryz.prog 132 #[.pointer (some ⟨p.g, 0, none⟩)] u fun e w1 => ∃ a n2 cap, e = .returned (.slice a n2 cap) ∧ Calls Tryz.prog 120 #[.pointer (some ⟨p.g, 0, none⟩), .slice a n2 cap] w1 fun e w2 => e = .returned (.tuple #[]) ∧ Fr u w2 (footL p) ∧ ∃ q, q.g = p.g ∧ footL q = footL p ∧ ChL w w2 p q ∧ LIf (runD D) q) := Lib.hid (fun u n hn k h0 => by
    refine (lfnodes_any k.1 (namesN D.L) (names_up hD.nod) (fun z => hL.names hD z)).mono ?_
    rintro e w1 ⟨v, rfl, hown, hb1⟩
    obtain ⟨a, cap, rfl, hrow⟩ := hown.row
    have h1 := k.1.keep hb1
    have hnl := names_len D.L
    refine ⟨a, _, cap, rfl, (lfmark_any h1 (by omega) hrow ?_ (fun z hz => ((hL.names hD z).1 hz).1) (D.L.map Nd.id) (fun y hy => el_id.1 ((hL.mrk y).1 hy).1) (by rw [List.length_map]; omega)).mono ?_⟩
    · by_cases z : (namesN D.L).length = 0
      · exact Or.inl z
      · refine Or.inr (fun ad e hf => ?_)
        have k1 := k.1.inb _ hf
        have k2 := (World.ownsRow.lt hown ad.block (by rw [e]; rfl)).1
        omega
    · rintro e w2 ⟨rfl, hc⟩
      have hcu := (ChL.still k.1 hb1).join hc
      refine ⟨rfl, hcu.2.1, mkP (runP p (remS D.L (touchN D) p.S n) p.M (p.st + n)) (namesN D.L), rfl, rfl, k.join hcu, ?_⟩
      have := hL.runNo hD h0 n
      rw [← hn] at this
      exact this)
  have HIn : Hid (∀ b, footL p b → b < w.heap.size) := Lib.hid h.inb
  obtain ⟨O, hO⟩ : ∃ O, O = touchN D := ⟨_, rfl⟩
  obtain ⟨E, hE⟩ : ∃ E, E = runE D := ⟨_, rfl⟩
  rw [← hO] at HTo HSp HClr HNd htl ⊢
  rw [← hE] at HSp HClr HNd ⊢
  obtain ⟨g, hge⟩ : ∃ g, g = p.g := ⟨_, rfl⟩
  obtain ⟨gf, hfe⟩ : ∃ gf, gf = p.gf := ⟨_, rfl⟩
  obtain ⟨gm, hme⟩ : ∃ gm, gm = p.gm := ⟨_, rfl⟩
  obtain ⟨st, hse⟩ : ∃ st, st = p.st := ⟨_, rfl⟩
  obtain ⟨P, hP⟩ : ∃ P : Nat → Wp, P = fun n => runP p (remS D.L O p.S n) p.M (p.st + n) := ⟨_, rfl⟩
  have HSp2 : Hid (∀ W a n cap, Below w.heap.size w W → LRes w W O (.slice a n cap) → n = O.length → W.cell? ⟨g, 4, none⟩ = some (.int .i64 st) ∧ W.frozen? ⟨g, 4, none⟩ = false ∧ g < W.heap.size ∧ ∀ z, z = ((st + n : Nat) : Int) → Calls Tryz.prog 131 #[.pointer (some ⟨g, 0, none⟩), .slice a n cap] (W.setCell ⟨g, 4, none⟩ (.int .i64 z)) fun e w' => e = .returned (.int .i64 E) ∧ ChL w w' p (P n) ∧ LRes w w' O (.slice a n cap)) := Lib.hid (by rw [hP, hge, hse]; exact HSp.out)
  have HClr2 : Hid (∀ u n, n = O.length → ChL w u p (P n) → E = 0 → u.cell? ⟨g, 3, none⟩ = some (.map (some gm)) ∧ g < u.heap.size ∧ ∃ w2, (∀ ty, (Builtin.clear_ #[199] ty #[.map (some gm)]).run Tryz.prog u = .ok (.tuple #[]) w2) ∧ Fr u w2 (footL p) ∧ ∃ q, q.g = g ∧ footL q = footL p ∧ ChL w w2 p q ∧ LIf (runD D) q) := Lib.hid (by rw [hP, hge, hme]; exact HClr.out)
  have HNd2 : Hid (∀ u n, n = O.length → ChL w u p (P n) → E ≠ 0 → Calls Tryz.prog 132 #[.pointer (some ⟨g, 0, none⟩)] u fun e w1 => ∃ a n2 cap, e = .returned (.slice a n2 cap) ∧ Calls Tryz.prog 120 #[.pointer (some ⟨g, 0, none⟩), .slice a n2 cap] w1 fun e w2 => e = .returned (.tuple #[]) ∧ Fr u w2 (footL p) ∧ ∃ q, q.g = g ∧ footL q = footL p ∧ ChL w w2 p q ∧ LIf (runD D) q) := Lib.hid (by rw [hP, hge]; exact HNd.out)
  rw [← hge, ← hfe, ← hme] at HTo
  rw [← hge]
  have hstb : st ≤ 1000000 := by rw [hse, hpst]; exact hst
  obtain ⟨c0, c3, hk⟩ := HTo.out
  have HKy := Lib.hid hk
  have hg : g < w.heap.size := by rw [hge]; exact h.cells.2.2.2.2.2
  have hol : O.length ≤ 300 := by omega
  clear HSp HClr HNd HTo hk h hL hD hDl hst hpst htl hO hE hge hfe hme hse hP
  go_enter Tryz.func72, Tryz.ntmps72
  go_upto_region 3 with fail
  go_region_held3 (fun w' => w'.cell? ⟨g, 0, none⟩ = some (.pointer (some ⟨gf, 0, none⟩)) ∧ w'.cell? ⟨g, 3, none⟩ = some (.map (some gm))) (first | exact ⟨c0, c3⟩ | exact ⟨c01, c31⟩ | exact ⟨c02, c32⟩ | exact ⟨c03, c33⟩)
    (first
      | (go_at_call 130; refine HKy.out.mono ?_; rintro e w1 ⟨f, rfl, c01, c31, hs⟩; have HSr := Lib.hid hs; clear hs)
      | (go_at_call 123; refine HSr.out.mono ?_; rintro e w2 ⟨ka, kn, kc, rfl, c02, c32, hu⟩; have HUn := Lib.hid hu; clear hu)
      | (go_at_call 129; refine HUn.out.mono ?_; rintro e w3 ⟨v, rfl, c03, c33, hlr, hcp, hb3⟩; have HLr := Lib.hid hlr; have HCp := Lib.hid hcp; have HB3 := Lib.hid hb3; clear hlr hcp hb3))
  obtain ⟨a, cap, rfl, -, -⟩ := HLr.out
  obtain ⟨n, hn⟩ : ∃ n, n = O.length := ⟨_, rfl⟩
  rw [← hn] at HLr HCp hol ⊢
  obtain ⟨c4, hfz, hg3, hre⟩ := HSp2.out w3 a n cap HB3.out HLr.out hn
  have HRe := Lib.hid (hre ((st : Int) + (n : Int)) (by rw [Int.natCast_add]))
  have HNe := Lib.hid hn
  have hw : IntKind.i64.wrap ((st : Int) + (n : Int)) = (st : Int) + (n : Int) := by rw [IntKind.wrap_i64]; omega
  clear hre HSp2 HLr c0 c3 c01 c31 c02 c32 c03 c33 hg HKy HSr HUn hn
  go_wp2_with fail
  refine HRe.out.mono ?_
  rintro e w4 ⟨rfl, hch, hlr⟩
  have HCh := Lib.hid hch
  have HLr := Lib.hid hlr
  clear hch hlr HRe c4 hg3
  by_cases hE0 : E = 0
  · obtain ⟨c3, hg, w5, r5, hfr, hq⟩ := HClr2.out w4 n HNe.out HCh.out hE0
    have HE : Hid (LRes w w5 O (.slice a n cap) ∧ ∃ q, q.g = g ∧ footL q = footL p ∧ ChL w w5 p q ∧ LIf (runD D) q) := Lib.hid ⟨lres_frame HLr.out HIn.out hfr, hq⟩
    subst hE0
    clear hfr hq HClr2 HNd2 HCh HLr
    go_wp2_with (at_builtin; refine wpList_clr9 rfl (.tmp 42) 199 rfl _ rfl (r5 _) ?_)
    go_ret2
    exact ⟨_, rfl, HE.out.1, HCp.out, HE.out.2⟩
  · have HNo := Lib.hid (HNd2.out w4 n HNe.out HCh.out hE0)
    clear HClr2 HNd2 HCh
    go_wp2_with fail
    refine HNo.out.mono ?_
    rintro e w5 ⟨ka, kn, kc, rfl, hm⟩
    have HM := Lib.hid hm
    clear hm HNo
    go_wp2_with fail
    refine HM.out.mono ?_
    rintro e w6 ⟨rfl, hfr, hq⟩
    have HE : Hid (LRes w w6 O (.slice a n cap) ∧ ∃ q, q.g = g ∧ footL q = footL p ∧ ChL w w6 p q ∧ LIf (runD D) q) := Lib.hid ⟨lres_frame HLr.out HIn.out hfr, hq⟩
    clear hfr hq HM HLr
    go_wp2
    go_ret2
    exact ⟨_, rfl, HE.out.1, HCp.out, HE.out.2⟩
end
def LFWB (w : World) (g : Nat) (F : Nat → Prop) (D : FD) : Prop := ∃ p, p.g = g ∧ LW w p ∧ LIf D p ∧ ∀ b, F b ↔ footL p b
theorem chx_of {w w' : World} {p : Wp} {g : Nat} {F : Nat → Prop} {D : FD} (hF : ∀ b, F b ↔ footL p b) (h : ∃ q, q.g = g ∧ ChL w w' p q ∧ LIf D q) : ChX LFWB w w' g F D := by
  obtain ⟨q, hq, hc, hl⟩ := h
  exact ⟨footL q, ⟨q, hq, hc.1, hl, fun _ => Iff.rfl⟩, Fr.of hc.2.1 (fun b hb => (hF b).2 hb), fun b hb => (hc.2.2 b hb).imp_left (fun c => (hF b).2 c)⟩
theorem chr_of {w w' : World} {p : Wp} {g : Nat} {F : Nat → Prop} {D : FD} (hF : ∀ b, F b ↔ footL p b) (h : ∃ q, q.g = g ∧ footL q = footL p ∧ ChL w w' p q ∧ LIf D q) : ChR LFWB w w' g F D := by
  obtain ⟨q, hq, hf, hc, hl⟩ := h
  exact ⟨footL q, ⟨q, hq, hc.1, hl, fun _ => Iff.rfl⟩, Fr.of hc.2.1 (fun b hb => (hF b).2 hb), fun b hb => (hF b).2 (hf ▸ hb)⟩
set_option maxHeartbeats 4000000 in
set_option maxRecDepth 100000 in
theorem lfwnew_any (w : World) : Calls Tryz.prog 67 #[] w fun e w' => ∃ g F, e = .returned (.pointer (some ⟨g, 0, none⟩)) ∧ LFWB w' g F FD0 ∧ (∀ b, F b → w.heap.size ≤ b) ∧ Below w.heap.size w w' := by
  have hmm := @run_makeMap Tryz.prog
  have HNw := Lib.hid (lfnew_any w)
  have HE : Hid (∀ (w1 : World) gf Ff, LFB w1 gf Ff [] → (∀ b, Ff b → w.heap.size ≤ b) → Below w.heap.size w w1 → ∃ F, LFWB ((((w1.alloc (.map #[] 0)).alloc (.map #[] 0)).alloc (.map #[] 0)).alloc (.cells #[.pointer (some ⟨gf, 0, none⟩), .map (some w1.heap.size), .map (some (w1.heap.size + 1)), .map (some (w1.heap.size + 2)), .int .i64 0] 201)) (w1.heap.size + 3) F FD0 ∧ (∀ b, F b → w.heap.size ≤ b) ∧ Below w.heap.size w ((((w1.alloc (.map #[] 0)).alloc (.map #[] 0)).alloc (.map #[] 0)).alloc (.cells #[.pointer (some ⟨gf, 0, none⟩), .map (some w1.heap.size), .map (some (w1.heap.size + 1)), .map (some (w1.heap.size + 2)), .int .i64 0] 201))) := Lib.hid (fun w1 gf Ff hf hn hb => by
    have s1 : (w1.alloc (.map #[] 0)).heap.size = w1.heap.size + 1 := by simp
    have s2 : ((w1.alloc (.map #[] 0)).alloc (.map #[] 0)).heap.size = w1.heap.size + 2 := by simp
    have s3 : (((w1.alloc (.map #[] 0)).alloc (.map #[] 0)).alloc (.map #[] 0)).heap.size = w1.heap.size + 3 := by simp
    have b1 : Below w1.heap.size w1 (w1.alloc (.map #[] 0)) := alloc_below _ _
    have b2 : Below (w1.alloc (.map #[] 0)).heap.size (w1.alloc (.map #[] 0)) ((w1.alloc (.map #[] 0)).alloc (.map #[] 0)) := alloc_below _ _
    have b3 : Below ((w1.alloc (.map #[] 0)).alloc (.map #[] 0)).heap.size ((w1.alloc (.map #[] 0)).alloc (.map #[] 0)) (((w1.alloc (.map #[] 0)).alloc (.map #[] 0)).alloc (.map #[] 0)) := alloc_below _ _
    obtain ⟨W3, hW3⟩ : ∃ W3, W3 = ((w1.alloc (.map #[] 0)).alloc (.map #[] 0)).alloc (.map #[] 0) := ⟨_, rfl⟩
    have m1 := ((MF.new bK w1).keep b2).keep b3
    have m2 := (MF.new sK (w1.alloc (.map #[] 0))).keep b3
    have m3 := MF.new xK ((w1.alloc (.map #[] 0)).alloc (.map #[] 0))
    rw [s1] at m2
    rw [s2] at m3
    have hb3 := bthen (bthen b1 b2) b3
    rw [← hW3] at m1 m2 m3 hb3 s3 ⊢
    have b4 : Below W3.heap.size W3 (W3.alloc (.cells #[.pointer (some ⟨gf, 0, none⟩), .map (some w1.heap.size), .map (some (w1.heap.size + 1)), .map (some (w1.heap.size + 2)), .int .i64 0] 201)) := alloc_below _ _
    have k := Blk.new W3 201 #[.pointer (some ⟨gf, 0, none⟩), .map (some w1.heap.size), .map (some (w1.heap.size + 1)), .map (some (w1.heap.size + 2)), .int .i64 0]
    rw [s3] at k
    have hfin := hf.inb
    have hsz := hb.size
    refine ⟨footL ⟨w1.heap.size + 3, gf, w1.heap.size, w1.heap.size + 1, w1.heap.size + 2, Ff, [], fun _ => none, fun _ => none, fun _ => none, 0⟩, ⟨⟨w1.heap.size + 3, gf, w1.heap.size, w1.heap.size + 1, w1.heap.size + 2, Ff, [], fun _ => none, fun _ => none, fun _ => none, 0⟩, rfl, ⟨k, (hf.keep hb3).keep b4, m1.keep b4, m2.keep b4, m3.keep b4, by show w1.heap.size + 3 ≠ w1.heap.size; omega, by show w1.heap.size + 3 ≠ w1.heap.size + 1; omega, by show w1.heap.size + 3 ≠ w1.heap.size + 2; omega, by show w1.heap.size ≠ w1.heap.size + 1; omega, by show w1.heap.size ≠ w1.heap.size + 2; omega, by show w1.heap.size + 1 ≠ w1.heap.size + 2; omega, fun c => by have := hfin _ c; have : w1.heap.size + 3 < w1.heap.size := this; omega, fun c => by have : w1.heap.size < w1.heap.size := hfin _ c; omega, fun c => by have : w1.heap.size + 1 < w1.heap.size := hfin _ c; omega, fun c => by have : w1.heap.size + 2 < w1.heap.size := hfin _ c; omega⟩, LIf.zero rfl rfl rfl rfl rfl, fun _ => Iff.rfl⟩, ?_, bthen (bthen hb hb3) b4⟩
    rintro b (e | e | e | e | e)
    · have : b = w1.heap.size + 3 := e
      omega
    · have : b = w1.heap.size := e
      omega
    · have : b = w1.heap.size + 1 := e
      omega
    · have : b = w1.heap.size + 2 := e
      omega
    · exact hn b e)
  go_enter Tryz.func67, Tryz.ntmps67
  go_wp2_with fail
  refine HNw.out.mono ?_
  rintro e w1 ⟨gf, Ff, rfl, h1, h2, h3⟩
  have HE1 := Lib.hid (HE.out w1 gf Ff h1 h2 h3)
  clear h1 h2 h3 HE HNw
  go_wp2
  go_ret
  obtain ⟨F, k1, k2, k3⟩ := HE1.out
  exact ⟨_, F, rfl, k1, k2, k3⟩
theorem fwe_holds : FWE LFWB where
  keep_ := by
    rintro w w' g F D ⟨p, h1, h2, h3, h4⟩ he
    exact ⟨p, h1, h2.same (fun b hb => he b ((h4 b).2 hb)), h3, h4⟩
  inb := by
    rintro w g F D ⟨p, h1, h2, h3, h4⟩ b hb
    exact h2.inb b ((h4 b).1 hb)
  new := lfwnew_any
  put := by
    rintro w g F D a n cap l hD hDl ⟨p, rfl, h2, h3, h4⟩ hn hr hl
    exact (lfput_any hD h3 h2 hr hl hDl hn).mono fun _ _ q => ⟨q.1, chx_of h4 q.2⟩
  drop := by
    rintro w g F D a n cap xs hD hDl ⟨p, rfl, h2, h3, h4⟩ hn hr ha hx
    exact (lfdrop_any hD h3 h2 hr (ha.imp id (fun c ad e hf => c ad e ((h4 _).2 hf))) hx hn hDl).mono fun _ _ q => ⟨q.1, chx_of h4 q.2⟩
  run := by
    rintro w g F D hD hDl hst ⟨p, rfl, h2, h3, h4⟩
    exact (lfrun_any hD h3 h2 hDl hst).mono fun _ _ ⟨v, q1, q2, _, q3⟩ => ⟨v, q1, q2, chr_of h4 q3⟩
  state := by
    rintro w g F D x hD hDl ⟨p, rfl, h2, h3, h4⟩ hx
    refine (lfstate_any h2 h3.wf (fun y z e => h3.parR hD e) hx).mono ?_
    rintro e w' ⟨Y, rfl, hY, hb⟩
    obtain ⟨k1, k2⟩ := h3.state hD x
    exact ⟨Y, by rw [k1], hY.trans k2, hb⟩
end Go.Proofs.YthhfcedhbfandaaGreat
namespace Go.Proofs.YthhfcedhbfandaaGreat
open Go
theorem and_i14 {a b : Bool} (ha : a = true) (hb : b = true) : (a && b) = true := by rw [ha, hb]; rfl
end Go.Proofs.YthhfcedhbfandaaGreat
namespace Go.Proofs.YthhfcedhbfandaaGreat.extractSlots
open Go
set_option maxHeartbeats 40000000 in
theorem closed : joinedFacts Tryz.pinned.checked.prog 5 Tryz.f5 Rows.extractSlotsSpec Rows.extractSlotsRow = true := by
  unfold joinedFacts
  iterate 31 apply and_i14
  all_goals (as_aux_lemma => kernel_rfl)
end Go.Proofs.YthhfcedhbfandaaGreat.extractSlots
