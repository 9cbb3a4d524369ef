/-
  Slices of boxes as lists; what the reference's Join of layer 4 answers.
-/
import Derived.Test.YthdgldoailjhhaaShpD
namespace Go.Proofs.Ythdgldoailjhhaa
open Go.ChangeShapes Go.WideShapes Go.ChangeAt Go.RowKit Go.Deep

/-! vectors that the call itself appends -/
def flatV (vs : List V3) : List Value := vs.flatMap fun v => [.int .i64 v.1, .int .i64 v.2.1, .int .i64 v.2.2]
theorem flatV_len (vs : List V3) : (flatV vs).length = vs.length * 3 := by
  induction vs with
  | nil => rfl
  | cons v r ih => unfold flatV at ih ⊢; simp [ih]; omega
theorem flatV_snoc (vs : List V3) (x y z : Int) : flatV (vs ++ [(x, y, z)]) = flatV vs ++ [.int .i64 x, .int .i64 y, .int .i64 z] := by unfold flatV; simp
theorem flatV_at : ∀ (vs : List V3) (i : Nat), i < vs.length → (flatV vs)[i * 3]? = some (.int .i64 (vs.getD i zeroV).1) ∧ (flatV vs)[i * 3 + 1]? = some (.int .i64 (vs.getD i zeroV).2.1) ∧ (flatV vs)[i * 3 + 2]? = some (.int .i64 (vs.getD i zeroV).2.2)
  | [], i, h => by simp at h
  | v :: r, 0, _ => by simp [flatV]
  | v :: r, i + 1, h => by
    have ih := flatV_at r i (by simpa using h)
    have e : flatV (v :: r) = [.int .i64 v.1, .int .i64 v.2.1, .int .i64 v.2.2] ++ flatV r := by simp [flatV]
    rw [e]
    have g : ∀ j, ([Value.int .i64 v.1, .int .i64 v.2.1, .int .i64 v.2.2] ++ flatV r)[(i + 1) * 3 + j]? = (flatV r)[i * 3 + j]? := fun j => by
      rw [List.getElem?_append_right (by simp; omega)]
      congr 1
      simp
      omega
    have g0 := g 0
    simp only [Nat.add_zero] at g0
    rw [g0, g 1, g 2]
    simpa using ih

def OwnV (w : World) (base : Nat) (v : Value) (n : Nat) (vs : List V3) : Prop := w.ownsRow base 27 3 v n (flatV vs)
theorem vecF_info : (Try.prog.info? 27).map (fun i => (i.zero, i.size, i.bytes)) = some (some (.agg #[.int .i64 0, .int .i64 0, .int .i64 0]), 3, 24) := by kernel_rfl
theorem OwnV.row {w : World} {base : Nat} {v : Value} {n : Nat} {vs : List V3} (h : OwnV w base v n vs) : ∃ a cap, v = .slice a n cap ∧ VRow w a n vs := by
  have hl : vs.length = n := by have := h.1; rw [flatV_len] at this; omega
  rcases h.2 with ⟨rfl, rfl⟩ | ⟨g, cap, cur, rfl, hb, hh, hnc, hm, hs, ht⟩
  · exact ⟨none, 0, rfl, hl, by omega, Or.inl rfl⟩
  · unfold maxLen at hm
    refine ⟨_, cap, rfl, hl, by omega, Or.inr ⟨g, 0, rfl, fun i hi => ?_⟩⟩
    obtain ⟨f0, f1, f2⟩ := flatV_at vs i (by omega)
    rw [Nat.zero_add]
    exact ⟨(World.ownsRow.cellAt h _ (by omega)).trans f0, (World.ownsRow.cellAt h _ (by omega)).trans f1, (World.ownsRow.cellAt h _ (by omega)).trans f2⟩
theorem grown_belowV {w0 wr w' : World} {base B : Nat} {v : Value} {n : Nat} {vs : List V3} {o : Obj} (ho : OwnV wr base v n vs) (hB : B ≤ base) (hb : Below B w0 wr) (hs : B ≤ wr.heap.size) (hg : (wr.alloc o).grownBy w' v.ownBlock) : Below B w0 w' :=
  (hb.alloc hs o).grown hg (by simp; omega) (fun k hk => by have := World.ownsRow.lt ho k hk; omega)
theorem grown_blkV {wr w' : World} {base g : Nat} {v : Value} {n : Nat} {vs : List V3} {o : Obj} (ho : OwnV wr base v n vs) (hB : g < base) (hlt : g < wr.heap.size) (hg : (wr.alloc o).grownBy w' v.ownBlock) : w'.heap[g]? = wr.heap[g]? := by
  rw [hg.block g (by simp; omega) (fun e => by have := World.ownsRow.lt ho g e.symm; omega)]
  exact Below.heap_alloc wr o g hlt
theorem newsV (w : World) (x y z : Value) (t : TypeId) : ∀ j u, [x, y, z][j]? = some u → (w.alloc (.cells #[x, y, z] t)).cell? ((⟨w.heap.size, 0, none⟩ : Addr).add j) = some u := by
  intro j u h
  rw [add_plain, Nat.zero_add, (Blk.new w t #[x, y, z]).cell j]
  simpa using h

theorem ownV_lt_ {w : World} {base : Nat} {v : Value} {n : Nat} {vs : List V3} (h : OwnV w base v n vs) : ∀ k, v.ownBlock = some k → k < w.heap.size := fun k hk => (World.ownsRow.lt h k hk).2
theorem ownV_other {w w' : World} {base : Nat} {v u : Value} {n : Nat} {vs : List V3} (h : OwnV w base u n vs) (hg : w.grownBy w' v.ownBlock) (ha : Apart v u) : OwnV w' base u n vs := by
  have hl := ownV_lt_ h
  refine ⟨h.1, ?_⟩
  rcases h.2 with h0 | ⟨g, cap, cur, e, hb, hh, r⟩
  · exact .inl h0
  · refine .inr ⟨g, cap, cur, e, hb, ?_, r⟩
    have hgk : u.ownBlock = some g := by rw [e]; rfl
    rw [hg.block g (hl g hgk) (fun c => ha g c.symm hgk)]
    exact hh
theorem ownV_keep {wr w2 : World} {base : Nat} {v : Value} {n : Nat} {vs : List V3} (h : OwnV wr base v n vs) (hb : Below wr.heap.size wr w2) : OwnV w2 base v n vs := by
  have hl := ownV_lt_ h
  refine ⟨h.1, ?_⟩
  rcases h.2 with h0 | ⟨g, cap, cur, e, hbs, hh, r⟩
  · exact .inl h0
  · refine .inr ⟨g, cap, cur, e, hbs, ?_, r⟩
    rw [hb.block g (hl g (by rw [e]; rfl))]
    exact hh
theorem apartV_next {w : World} {base : Nat} {v v' u : Value} {n : Nat} {vs : List V3} {S : Nat} (h : OwnV w base u n vs) (ha : Apart v u) (hv : v'.ownBlock = v.ownBlock ∨ v'.ownBlock = some S) (hS : w.heap.size ≤ S) : Apart v' u := fun k h1 h2 => by
  rcases hv with e | e
  · exact ha k (by rw [← e]; exact h1) h2
  · have := ownV_lt_ h k h2
    rw [e] at h1
    simp at h1
    omega

def zeroB : Nat → Int := fun _ => 0
/-- a slice of boxes whose elements are 'Bs' -/
def BRow (w : World) (a : Option Addr) (len : Nat) (Bs : List (Nat → Int)) : Prop :=
  Bs.length = len ∧ len ≤ 9223372036854775807 ∧ (len = 0 ∨ ∃ b off, a = some ⟨b, off, none⟩ ∧ ∀ i, i < len → ∀ j, j < 6 → w.cell? ⟨b, off + i * 6 + j, none⟩ = some (.int .i64 (Bs.getD i zeroB j)))
theorem brow_keep {w w' : World} {a : Option Addr} {len : Nat} {Bs : List (Nat → Int)} (h : BRow w a len Bs) (hb : Below w.heap.size w w') : BRow w' a len Bs := by
  obtain ⟨h1, h2, h3⟩ := h
  refine ⟨h1, h2, ?_⟩
  rcases h3 with h3 | ⟨b, off, e, hc⟩
  · exact Or.inl h3
  · exact Or.inr ⟨b, off, e, fun i hi j hj => cell_keep (hc i hi j hj) hb⟩
theorem BRow.at_ {w : World} {a : Option Addr} {len k : Nat} {Bs : List (Nat → Int)} (h : BRow w a len Bs) (hk : k < len) :
    ∃ b off B, a = some ⟨b, off, none⟩ ∧ Bs[k]? = some B ∧ w.cell? ⟨b, off + k * 6, none⟩ = some (.int .i64 (B 0)) ∧ w.cell? ⟨b, off + k * 6 + 1, none⟩ = some (.int .i64 (B 1)) ∧ w.cell? ⟨b, off + k * 6 + 2, none⟩ = some (.int .i64 (B 2)) ∧ w.cell? ⟨b, off + k * 6 + 3, none⟩ = some (.int .i64 (B 3)) ∧ w.cell? ⟨b, off + k * 6 + 4, none⟩ = some (.int .i64 (B 4)) ∧ w.cell? ⟨b, off + k * 6 + 5, none⟩ = some (.int .i64 (B 5)) := by
  obtain ⟨h1, h2, h3⟩ := h
  rcases h3 with h3 | ⟨b, off, rfl, hc⟩
  · omega
  · have hk' : k < Bs.length := by omega
    have e : Bs.getD k zeroB = Bs[k] := by simp [List.getD, List.getElem?_eq_getElem hk']
    have c := hc k hk
    rw [e] at c
    exact ⟨b, off, _, rfl, List.getElem?_eq_getElem hk', c 0 (by omega), c 1 (by omega), c 2 (by omega), c 3 (by omega), c 4 (by omega), c 5 (by omega)⟩
def rightBx (Bs : List (Nat → Int)) : Bool := Bs.all okBox
def mins (Bs : List (Nat → Int)) : List V3 := Bs.map fun B => (B 0, B 1, B 2)
def maxs (Bs : List (Nat → Int)) : List V3 := Bs.map fun B => (B 3, B 4, B 5)
def joinOk (Bs : List (Nat → Int)) : Bool := rightBx Bs && !Bs.isEmpty
def joinK (Bs : List (Nat → Int)) (k : Nat) : Int := if k < 3 then compK k (pk lessB (mins Bs)) else compK (k - 3) (pk moreB (maxs Bs))
def joinE (Bs : List (Nat → Int)) : Int := if joinOk Bs then 0 else 1
def joinV (Bs : List (Nat → Int)) (k : Nat) : Int := gate (joinE Bs) (joinK Bs k)
theorem rightBx_bad {Bs : List (Nat → Int)} {k : Nat} {B : Nat → Int} (h : Bs[k]? = some B) (ho : okBox B = false) : rightBx Bs = false := by
  unfold rightBx
  rw [List.all_eq_false]
  exact ⟨B, List.mem_of_getElem? h, by simpa using ho⟩
theorem rightBx_succ {Bs : List (Nat → Int)} {k : Nat} {B : Nat → Int} (h : Bs[k]? = some B) (hr : rightBx (Bs.take k) = true) (ho : okBox B = true) : rightBx (Bs.take (k + 1)) = true := by
  unfold rightBx at hr ⊢
  rw [List.take_add_one, List.all_append, hr, h]
  simpa using ho
theorem mins_snoc {Bs : List (Nat → Int)} {k : Nat} {B : Nat → Int} (h : Bs[k]? = some B) : mins (Bs.take (k + 1)) = mins (Bs.take k) ++ [(B 0, B 1, B 2)] := by
  unfold mins; rw [List.take_add_one, h, List.map_append]; rfl
theorem maxs_snoc {Bs : List (Nat → Int)} {k : Nat} {B : Nat → Int} (h : Bs[k]? = some B) : maxs (Bs.take (k + 1)) = maxs (Bs.take k) ++ [(B 3, B 4, B 5)] := by
  unfold maxs; rw [List.take_add_one, h, List.map_append]; rfl
theorem join_no {Bs : List (Nat → Int)} (h : joinOk Bs = false) : joinE Bs = 1 ∧ ∀ k, joinV Bs k = 0 := by
  have e : joinE Bs = 1 := by unfold joinE; rw [h]; rfl
  exact ⟨e, fun k => by unfold joinV; rw [e]; rfl⟩
theorem join_yes {Bs : List (Nat → Int)} (h : joinOk Bs = true) : joinE Bs = 0 ∧ ∀ k, joinV Bs k = joinK Bs k := by
  have e : joinE Bs = 0 := by unfold joinE; rw [if_pos h]
  exact ⟨e, fun k => by unfold joinV; rw [e]; rfl⟩
theorem redge_xyz (most : Bool) (a : Option Addr) (len cap : Nat) (vs : List V3) (w : World) (p0 p1 p2 : Int) (hp : pk (btOf most) vs = (p0, p1, p2)) (row : VRow w a len vs) :
    Calls Try.prog 25 #[.slice a len cap, .bool most] w fun e w' => e = .returned (.agg #[.int .i64 p0, .int .i64 p1, .int .i64 p2]) ∧ Below w.heap.size w w' :=
  (redge_any most a len cap vs w row).mono fun _ _ ⟨he, hw⟩ => ⟨by rw [he, hp]; rfl, hw⟩

set_option maxHeartbeats 2000000 in
theorem rjoin_any (a : Option Addr) (len cap : Nat) (Bs : List (Nat → Int)) (w : World) (hle : len ≤ 1000) (row : BRow w a len Bs) :
    Calls Try.prog 8 #[.slice a len cap] w fun e w' => e = .returned (.tuple #[.agg #[.int .i64 (joinV Bs 0), .int .i64 (joinV Bs 1), .int .i64 (joinV Bs 2), .int .i64 (joinV Bs 3), .int .i64 (joinV Bs 4), .int .i64 (joinV Bs 5)], .int .i64 (joinE Bs)]) ∧ Below w.heap.size w w' := by
  have HL := Lib.hid row.1
  have HRow := Lib.hid row
  clear row
  obtain ⟨i0, hi0, hz0, hz1, hz2⟩ := info_parts vecF_info
  have HI := Lib.hid (And.intro hi0 (And.intro hz0 (And.intro hz1 hz2)))
  clear hi0 hz0 hz1 hz2
  go_enter Try.func8, Try.ntmps8
  go_wp2
  go_loopw [4, 5, 6] (fun v u i wr => ∃ k : Nat, k ≤ len ∧ i = .int .i64 k ∧ rightBx (Bs.take k) = true ∧ OwnV wr (w.heap.size + 1) v k (mins (Bs.take k)) ∧ OwnV wr (w.heap.size + 1) u k (maxs (Bs.take k)) ∧ Apart v u ∧ Blk wr w.heap.size 33 #[.int .i64 0, .int .i64 0, .int .i64 0, .int .i64 0, .int .i64 0, .int .i64 0] ∧ Below w.heap.size w wr ∧ w.heap.size + 1 ≤ wr.heap.size) (fun _ _ i _ => len - (intOf i).toNat)
  case atStart => exact ⟨0, Nat.zero_le _, rfl, rfl, World.ownsRow_nil _ _ _ _, World.ownsRow_nil _ _ _ _, (fun k h => by cases h), Blk.new w _ _, alloc_below _ _, by simp⟩
  case round =>
    obtain ⟨k, hk, rfl, hz, ho1, ho2, hap, hres, hb, hsz⟩ := hrel
    have HZ := Lib.hid hz
    have HO1 := Lib.hid ho1
    have HO2 := Lib.hid ho2
    have HAp := Lib.hid hap
    have HRes := Lib.hid hres
    have HB := Lib.hid hb
    clear hz ho1 ho2 hap hres hb
    by_cases hlt : k < len
    · obtain ⟨b, off, B, rfl, hv, m0, m1, m2, m3, m4, m5⟩ := (brow_keep HRow.out HB.out).at_ hlt
      have HV := Lib.hid hv
      clear hv
      by_cases ho : okBox B = true
      · have HK := Lib.hid ho
        clear ho
        go_wp2_with fail
        refine (rbox_b HK.out _).mono ?_
        rintro e w1 ⟨rfl, b1⟩
        replace HO1 := Lib.hid (ownV_keep HO1.out b1)
        replace HO2 := Lib.hid (ownV_keep HO2.out b1)
        replace HRes := Lib.hid (HRes.out.keep b1)
        replace HB := Lib.hid (bthen HB.out b1)
        have hsz1 : w.heap.size + 1 ≤ w1.heap.size := Nat.le_trans hsz b1.size
        replace m0 := cell_keep m0 b1
        replace m1 := cell_keep m1 b1
        replace m2 := cell_keep m2 b1
        replace m3 := cell_keep m3 b1
        replace m4 := cell_keep m4 b1
        replace m5 := cell_keep m5 b1
        clear b1 hsz
        have zb := cell_lt m0
        simp only at zb
        go_wp2_with (at_builtin; refine wpList_append_own_at _ rfl (.tmp 22) (.tmp 28) 55 rfl (w.heap.size + 1) 27 i0 (.agg #[.int .i64 0, .int .i64 0, .int .i64 0]) 3 24 Try.underlying55 HI.out.1 HI.out.2.1 HI.out.2.2.1 HI.out.2.2.2 rfl (by decide) _ _ _ rfl (HO1.out.alloc _) ⟨w1.heap.size, 0, none⟩ 1 1 [.int .i64 (B 0), .int .i64 (B 1), .int .i64 (B 2)] rfl rfl (newsV _ _ _ _ _) (by intro u hu; simp at hu; rcases hu with rfl | rfl | rfl <;> rfl) (by unfold maxLen; omega) (by omega) (by simp; omega) ?_)
        intro v1 w2 hown1 hgrow1 _ hat1
        have HN1 := Lib.hid hown1
        have HG1 := Lib.hid hgrow1
        have HA1 := Lib.hid hat1
        clear hown1 hgrow1 hat1
        have HP2 := Lib.hid (ownV_other (ownV_keep HO2.out (alloc_below _ _)) HG1.out HAp.out)
        have HAp1 := Lib.hid (apartV_next HO2.out HAp.out HA1.out (by omega))
        have HRes1 := Lib.hid (HRes.out.same (grown_blkV HO1.out (by omega) HRes.out.lt HG1.out))
        have HB1 := Lib.hid (grown_belowV HO1.out (by omega) HB.out HB.out.size HG1.out)
        have hsz2 : w.heap.size + 1 ≤ w2.heap.size := by have := HG1.out.size; simp at this; omega
        clear HO1 HO2 HRes HB HG1 HA1 hsz1 m0 m1 m2 m3 m4 m5 zb HAp
        obtain ⟨b', off', B', e, hv', m0, m1, m2, m3, m4, m5⟩ := (brow_keep HRow.out HB1.out).at_ hlt
        simp at e
        obtain ⟨rfl, rfl⟩ := e
        obtain rfl : B = B' := by have := HV.out; rw [hv'] at this; exact (Option.some.inj this).symm
        clear hv' m0 m1 m2
        have zb := cell_lt m3
        simp only at zb
        go_wp2_with (at_builtin; refine wpList_append_own_at _ rfl (.tmp 30) (.tmp 36) 55 rfl (w.heap.size + 1) 27 i0 (.agg #[.int .i64 0, .int .i64 0, .int .i64 0]) 3 24 Try.underlying55 HI.out.1 HI.out.2.1 HI.out.2.2.1 HI.out.2.2.2 rfl (by decide) _ _ _ rfl (HP2.out.alloc _) ⟨w2.heap.size, 0, none⟩ 1 1 [.int .i64 (B 3), .int .i64 (B 4), .int .i64 (B 5)] rfl rfl (newsV _ _ _ _ _) (by intro u hu; simp at hu; rcases hu with rfl | rfl | rfl <;> rfl) (by unfold maxLen; omega) (by omega) (by simp; omega) ?_)
        intro v2 w3 hown2 hgrow2 _ hat2
        have HN2 := Lib.hid hown2
        have HG2 := Lib.hid hgrow2
        have HA2 := Lib.hid hat2
        clear hown2 hgrow2 hat2 m3 m4 m5 zb
        go_wp2
        go_roundw
        case rel =>
          have ho1 : OwnV w2 (w.heap.size + 1) v1 (k + 1) (mins (Bs.take (k + 1))) := by
            unfold OwnV
            rw [mins_snoc HV.out, flatV_snoc]
            exact HN1.out
          have ho2 : OwnV w3 (w.heap.size + 1) v2 (k + 1) (maxs (Bs.take (k + 1))) := by
            unfold OwnV
            rw [maxs_snoc HV.out, flatV_snoc]
            exact HN2.out
          exact ⟨k + 1, by omega, by go_num, rightBx_succ HV.out HZ.out HK.out, ownV_other (ownV_keep ho1 (alloc_below _ _)) HG2.out HAp1.out.symm, ho2, (apartV_next ho1 HAp1.out.symm HA2.out (by omega)).symm, HRes1.out.same (grown_blkV HP2.out (by omega) HRes1.out.lt HG2.out), grown_belowV HP2.out (by omega) HB1.out HB1.out.size HG2.out, by have := HG2.out.size; simp at this; omega⟩
        case measure => simp [intOf] <;> omega
      · have ho' : okBox B = false := by simpa using ho
        have HK := Lib.hid ho'
        clear ho ho'
        go_wp2_with fail
        refine (rbox_b HK.out _).mono ?_
        rintro e w1 ⟨rfl, b1⟩
        replace HRes := Lib.hid (HRes.out.keep b1)
        replace HB := Lib.hid (bthen HB.out b1)
        clear b1 m0 m1 m2 m3 m4 m5
        obtain ⟨c0, c1, c2, c3, c4, c5, f0, f1, f2, f3, f4, f5⟩ := blk6 HRes.out
        go_wp2
        have hno := join_no (Bs := Bs) (by unfold joinOk; rw [rightBx_bad HV.out HK.out]; rfl)
        exact bodyPost_ret (v := .tuple #[.agg #[.int .i64 0, .int .i64 0, .int .i64 0, .int .i64 0, .int .i64 0, .int .i64 0], .int .i64 1]) (by simp [results, Try.results8, go_sem, c0, c1, c2, c3, c4, c5]) rfl ⟨by rw [hno.1, hno.2, hno.2, hno.2, hno.2, hno.2, hno.2], bset6 HB.out (by omega)⟩
    · obtain rfl : k = len := by omega
      have et : Bs.take k = Bs := List.take_of_length_le (by rw [HL.out]; exact Nat.le_refl _)
      obtain ⟨pa, pcap, rfl, hp1⟩ := HO1.out.row
      obtain ⟨qa, qcap, rfl, hp2⟩ := HO2.out.row
      rw [et] at hp1 hp2 HZ
      have HR1 := Lib.hid hp1
      have HR2 := Lib.hid hp2
      clear hp1 hp2 HO1 HO2 HAp et
      by_cases h0 : k = 0
      · subst h0
        obtain ⟨c0, c1, c2, c3, c4, c5, f0, f1, f2, f3, f4, f5⟩ := blk6 HRes.out
        have hno := join_no (Bs := Bs) (by rw [show Bs = [] from List.eq_nil_of_length_eq_zero HL.out]; rfl)
        have HNo := Lib.hid hno
        clear hno
        go_wp2
        exact bodyPost_ret (v := .tuple #[.agg #[.int .i64 0, .int .i64 0, .int .i64 0, .int .i64 0, .int .i64 0, .int .i64 0], .int .i64 1]) (by simp [results, Try.results8, go_sem, c0, c1, c2, c3, c4, c5]) rfl ⟨by rw [HNo.out.1, HNo.out.2, HNo.out.2, HNo.out.2, HNo.out.2, HNo.out.2, HNo.out.2], bset6 HB.out (by omega)⟩
      · have hyes := join_yes (Bs := Bs) (by
          unfold joinOk
          rw [HZ.out]
          cases Bs with
          | nil => exact absurd HL.out.symm h0
          | cons _ _ => rfl)
        have HYes := Lib.hid hyes
        clear hyes
        have hk0 : ((k : Int) == 0) = false := by simpa using h0
        obtain ⟨⟨p0, p1, p2⟩, hp⟩ : ∃ p, p = pk lessB (mins Bs) := ⟨_, rfl⟩
        obtain ⟨⟨q0, q1, q2⟩, hq⟩ : ∃ q, q = pk moreB (maxs Bs) := ⟨_, rfl⟩
        have HPQ := Lib.hid (And.intro hp hq)
        clear hp hq
        go_wp2_with fail
        refine (redge_xyz false _ _ _ (mins Bs) _ p0 p1 p2 HPQ.out.1.symm HR1.out).mono ?_
        rintro e w1 ⟨rfl, b1⟩
        replace HRes := Lib.hid (HRes.out.keep b1)
        replace HB := Lib.hid (bthen HB.out b1)
        have HR3 := Lib.hid (vrow_keep HR2.out b1)
        clear b1
        go_wp2_with fail
        refine (redge_xyz true _ _ _ (maxs Bs) _ q0 q1 q2 HPQ.out.2.symm HR3.out).mono ?_
        rintro e w2 ⟨rfl, b2⟩
        replace HRes := Lib.hid (HRes.out.keep b2)
        replace HB := Lib.hid (bthen HB.out b2)
        clear b2
        obtain ⟨c0, c1, c2, c3, c4, c5, f0, f1, f2, f3, f4, f5⟩ := blk6 HRes.out
        go_wp2
        have ev : ∀ k, joinV Bs k = if k < 3 then compK k (p0, p1, p2) else compK (k - 3) (q0, q1, q2) := fun k => by rw [HYes.out.2]; unfold joinK; rw [← HPQ.out.1, ← HPQ.out.2]
        exact bodyPost_ret (v := .tuple #[.agg #[.int .i64 p0, .int .i64 p1, .int .i64 p2, .int .i64 q0, .int .i64 q1, .int .i64 q2], .int .i64 0]) (by simp [results, Try.results8, go_sem, c0, c1, c2, c3, c4, c5]) rfl ⟨by rw [HYes.out.1, ev, ev, ev, ev, ev, ev]; rfl, bset6 HB.out (by omega)⟩

end Go.Proofs.Ythdgldoailjhhaa
