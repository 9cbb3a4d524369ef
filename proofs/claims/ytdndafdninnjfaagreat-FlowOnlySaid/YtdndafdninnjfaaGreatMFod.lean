/-
  2 texts in one file, each with its own heading.
-/
import Derived.Test.YtdndafdninnjfaaGreatMFob
/-
  The reference's forest: what its Drop and behind of layer 9 answer.
-/
namespace Go.Proofs.YtdndafdninnjfaaGreat
open Go.RowKit

theorem RFB.inb {w : World} {g : Nat} {F : Nat → Prop} {L : FT} (h : RFB w g F L) : ∀ b, F b → b < w.heap.size := by
  obtain ⟨v, h1, h2⟩ := h
  exact fun b hb => h1.inb b ((h2 b).1 hb)
theorem own_one (w : World) (x : Int) : OwnD (w.alloc (.cells #[.int .i64 x] 41)) w.heap.size (.slice (some ⟨w.heap.size, 0, none⟩) 1 1) 1 [x] :=
  ⟨rfl, Or.inr ⟨w.heap.size, 1, #[.int .i64 x], rfl, Nat.le_refl _, Blk.new w 41 #[.int .i64 x], Nat.le_refl _, by unfold maxLen; omega, rfl, rfl⟩⟩
set_option maxHeartbeats 4000000 in
set_option maxRecDepth 100000 in
theorem rbehind_walk {w : World} {g : Nat} {v : Value} {L : FT} (h : RF w g v L) (hL : L.length ≤ 1000) (x : Int) (B : Int → List Int) (hB : ∀ c ∈ chF L x, 0 < (B c).length ∧ (B c).length ≤ 1001)
    (ih : ∀ c ∈ chF L x, ∀ u, Below w.heap.size w u → Calls Tryz.prog 73 #[.pointer (some ⟨g, 0, none⟩), .int .i64 c] u fun e w' => ∃ v, e = .returned v ∧ LRes u w' (B c) v ∧ Below u.heap.size u w')
    (htot : ∀ k, (x :: ((chF L x).take k).flatMap B).length ≤ 100000) :
    Calls Tryz.prog 73 #[.pointer (some ⟨g, 0, none⟩), .int .i64 x] w fun e w' => ∃ v, e = .returned v ∧ LRes w w' (x :: (chF L x).flatMap B) v ∧ Below w.heap.size w w' := by
  have hg := h.blk.lt
  have hal : Below w.heap.size w (w.alloc (.cells #[.int .i64 x] 41)) := alloc_below _ _
  have HCh : Hid (Calls Tryz.prog 94 #[.pointer (some ⟨g, 0, none⟩), .int .i64 x] (w.alloc (.cells #[.int .i64 x] 41)) fun e w' => ∃ v, e = .returned v ∧ LRes (w.alloc (.cells #[.int .i64 x] 41)) w' (chF L x) v ∧ Below (w.alloc (.cells #[.int .i64 x] 41)).heap.size (w.alloc (.cells #[.int .i64 x] 41)) w') := Lib.hid (rchildren_any (h.keep hal) hL x)
  have HAl := Lib.hid hal
  have HCl : Hid ((chF L x).length ≤ 1000) := Lib.hid (Nat.le_trans (chF_len L x) hL)
  obtain ⟨C, hC⟩ : ∃ C, C = chF L x := ⟨_, rfl⟩
  rw [← hC] at HCh HCl hB ih htot ⊢
  have HIh := Lib.hid ih
  have HBl := Lib.hid hB
  have HTo := Lib.hid htot
  obtain ⟨i0, hi0, hz0, hz1, hz2⟩ := info_parts id_info
  have HI := Lib.hid (And.intro hi0 (And.intro hz0 (And.intro hz1 hz2)))
  clear h hal hC hB ih htot hi0 hz0 hz1 hz2
  go_enter Tryz.func73, Tryz.ntmps73
  go_wp2_with fail
  refine HCh.out.mono ?_
  rintro e w1 ⟨v, rfl, ⟨va, vcap, hv, vrow, vnew⟩, b1⟩
  subst hv
  have HVr := Lib.hid vrow
  have HVn := Lib.hid vnew
  have hbig := vrow.2.1
  have HO1 := Lib.hid (ownD_keep (own_one w x) b1)
  have HB1 := Lib.hid (bthen HAl.out b1)
  have hs1 : w.heap.size + 1 ≤ w1.heap.size := by have := b1.size; simpa using this
  obtain ⟨n, hn⟩ : ∃ n, n = C.length := ⟨_, rfl⟩
  have hcl := HCl.out
  rw [← hn] at HVr HVn hcl hbig ⊢
  have HN := Lib.hid hn
  clear vrow vnew b1 HCh hn
  go_wp2
  go_loopw [5, 7] (fun v5 i wr => ∃ k : Nat, k ≤ n ∧ i = .int .i64 k ∧ OwnD wr w.heap.size v5 (x :: (C.take k).flatMap B).length (x :: (C.take k).flatMap B) ∧ (∀ b, v5.ownBlock = some b → b = w.heap.size ∨ w1.heap.size ≤ b) ∧ Below w.heap.size w wr ∧ w1.heap.size ≤ wr.heap.size ∧ Row wr va n C) (fun _ i _ => n - (ivl i).toNat)
  case atStart => exact ⟨0, by omega, rfl, HO1.out, fun b e => Or.inl (by injection e with e; exact e.symm), HB1.out, Nat.le_refl _, HVr.out⟩
  case round =>
    obtain ⟨k, hk, rfl, hown, hat, hb, hsz, hrow⟩ := hrel
    have HOwn := Lib.hid hown
    have HAt := Lib.hid hat
    have HB := Lib.hid hb
    have HRow := Lib.hid hrow
    have hgw : g < wr.heap.size := Nat.lt_of_lt_of_le hg hb.size
    clear hown hat hb hrow
    by_cases hlt : k < n
    · obtain ⟨b, off, z, rfl, hz, cz⟩ := row_at HRow.out hlt
      have hbl := World.block_lt_of_cell? _ _ cz
      have hzm := List.mem_of_getElem? hz
      have HBe := Lib.hid (HIh.out z hzm wr HB.out)
      obtain ⟨hp1, hp2⟩ := HBl.out z hzm
      have hto := HTo.out (k + 1)
      have HE : Hid (x :: (C.take (k + 1)).flatMap B = (x :: (C.take k).flatMap B) ++ B z) := Lib.hid (by rw [List.take_add_one, hz, List.flatMap_append]; simp)
      rw [HE.out, List.length_append] at hto
      -- where the children lie
      have hblk : w.heap.size + 1 ≤ b ∧ b < w1.heap.size := by
        rcases HVr.out.2.2 with c | ⟨b', off', e', hc'⟩
        · omega
        · injection e' with e'
          injection e' with e' _ _
          subst e'
          refine ⟨?_, World.block_lt_of_cell? _ _ (hc' 0 (by omega))⟩
          rcases HVn.out with q | q
          · omega
          · have := q _ rfl
            simpa using this
      have k0 : (0 : Int) ≤ (k : Int) := by omega
      have k1 : (k : Int) < (n : Int) := by omega
      obtain ⟨Q, hQ⟩ : ∃ Q, Q = x :: (C.take k).flatMap B := ⟨_, rfl⟩
      rw [← hQ] at HOwn HE hto
      obtain ⟨m, hm⟩ : ∃ m, m = Q.length := ⟨_, rfl⟩
      rw [← hm] at HOwn hto
      obtain ⟨Z, hZ⟩ : ∃ Z, Z = B z := ⟨_, rfl⟩
      rw [← hZ] at HBe HE hp1 hp2 hto
      have HM := Lib.hid hm
      clear hz hzm hQ hm hZ
      go_wp2_with fail
      refine HBe.out.mono ?_
      rintro e w2 ⟨v2, rfl, ⟨za, zcap, hv2, zrow, -⟩, b2⟩
      subst hv2
      have HZr := Lib.hid zrow
      replace HOwn := Lib.hid (ownD_keep HOwn.out b2)
      replace HB := Lib.hid (bthen HB.out b2)
      replace HRow := Lib.hid (row_keep HRow.out b2)
      have hsz2 : w1.heap.size ≤ w2.heap.size := Nat.le_trans hsz b2.size
      have hbs : w.heap.size ≤ w2.heap.size := HB.out.size
      obtain ⟨nz, hnz⟩ : ∃ nz, nz = Z.length := ⟨_, rfl⟩
      rw [← hnz] at HZr hp1 hp2 hto ⊢
      have HNz := Lib.hid hnz
      clear zrow b2 hnz HBe
      obtain ⟨ad, had⟩ : ∃ ad, za = some ad := by
        rcases HZr.out.2.2 with c | ⟨b', off', e', _⟩
        · omega
        · exact ⟨_, e'⟩
      subst had
      have HNew : Hid (∀ j u, (Z.map (Value.int .i64))[j]? = some u → w2.cell? (ad.add j) = some u) := Lib.hid (fun j u hu => by
        have hj : j < nz := by have := (List.getElem?_eq_some_iff.1 hu).1; rw [List.length_map, ← HNz.out] at this; exact this
        obtain ⟨b', off', y, e', hy, cy⟩ := row_at HZr.out hj
        injection e' with e'
        subst e'
        rw [Addr.add_mid, cy]
        rw [List.getElem?_map, hy] at hu
        exact hu)
      have HOne : Hid (∀ u ∈ Z.map (Value.int .i64), u.oneCell' = true) := Lib.hid (fun u hu => by
        obtain ⟨y, _, rfl⟩ := List.mem_map.1 hu
        rfl)
      go_wp2_with (at_builtin; refine wpList_append_lies _ rfl (.tmp 19) (.tmp 25) 24 rfl w.heap.size 41 i0 (.int .i64 0) 1 8 Tryz.underlying24 HI.out.1 HI.out.2.1 HI.out.2.2.1 HI.out.2.2.2 rfl (by decide) u5 m (Q.map (Value.int .i64)) rfl HOwn.out ad nz zcap (Z.map (Value.int .i64)) rfl (by rw [List.length_map, ← HNz.out, Nat.mul_one]) HNew.out HOne.out hp1 (by unfold maxLen; omega) (by omega) hbs w2.heap.size rfl ?_)
      intro gu gcap w3 ho hgr hat hgl
      have HO3 := Lib.hid ho
      have HX3 : Hid (gu = w.heap.size ∨ w1.heap.size ≤ gu) := Lib.hid (by
        rcases hat with q | q
        · exact HAt.out gu q
        · exact Or.inr (by omega))
      have HB3 := Lib.hid (own_below9 HOwn.out (Nat.le_refl _) HB.out hgr)
      have HR3 : Hid (Row w3 (some ⟨b, off, none⟩) n C) := Lib.hid (row_frame (F := fun q => u5.ownBlock = some q) HRow.out (Or.inr (fun ad' e' c => by
        injection e' with e'
        subst e'
        rcases HAt.out _ c with q | q
        · have q' : b = w.heap.size := q
          omega
        · have q' : w1.heap.size ≤ b := q
          omega)) ⟨hgr.os, hgr.tape, hgr.output, hgr.size, fun q hq hn => hgr.block q hq (fun e => hn e.symm)⟩)
      have hs3 : w1.heap.size ≤ w3.heap.size := Nat.le_trans hsz2 hgr.size
      clear ho hgr hat hgl
      generalize hnn : m + nz = nn at HO3 ⊢
      have HNn := Lib.hid hnn
      clear hnn
      go_wp2
      go_roundw
      case rel =>
        refine ⟨k + 1, by omega, by go_num, ?_, fun q e => ?_, HB3.out, hs3, HR3.out⟩
        · rw [HE.out, List.length_append, ← HM.out, ← HNz.out, HNn.out]
          unfold OwnD
          rw [List.map_append]
          exact HO3.out
        · have : gu = q := by simpa [Value.ownBlock] using e
          rw [← this]
          exact HX3.out
      case measure => simp [ivl] <;> omega
    · obtain rfl : k = n := by omega
      have e0 : C.take k = C := List.take_of_length_le (by rw [← HN.out]; exact Nat.le_refl _)
      rw [e0] at HOwn
      have HLr := Lib.hid (LRes.of9 (w := w) HOwn.out (Nat.le_refl _))
      obtain ⟨qa, qcap, hqv, _⟩ := HOwn.out.row
      subst hqv
      clear e0
      go_wp2
      go_ret
      exact ⟨_, rfl, HLr.out, HB.out⟩

end Go.Proofs.YtdndafdninnjfaaGreat
/-
  The reference's forest: what its behind and Under of layer 9 answer.
-/
namespace Go.Proofs.YtdndafdninnjfaaGreat
open Go.RowKit

theorem behN_len {L : FT} (h : WF L) (n : Nat) (x : Int) (hh : hgt L n x) : (behN L n x).length ≤ L.length + 1 := by
  have := pigeon (m := x :: L.map Prod.fst) (behN_nod h n x hh) (fun z hz => by
    rcases (mem_behN h n x hh z).1 hz with rfl | hz
    · exact List.mem_cons_self
    · exact List.mem_cons_of_mem _ (abv_fst h hz))
  rwa [List.length_cons, List.length_map] at this
theorem behN_pos (L : FT) : ∀ (n : Nat) (x : Int), 0 < (behN L n x).length
  | 0, _ => by show 0 < 1; omega
  | n + 1, x => by show 0 < (x :: _).length; rw [List.length_cons]; omega
theorem flat_take_le {f : Int → List Int} (C : List Int) (k : Nat) : ((C.take k).flatMap f).length ≤ (C.flatMap f).length := by
  have e : C.flatMap f = (C.take k).flatMap f ++ (C.drop k).flatMap f := by rw [← List.flatMap_append, List.take_append_drop]
  rw [e, List.length_append]
  omega
theorem rbehindN_any {L : FT} (hW : WF L) (hL : L.length ≤ 1000) : ∀ (n : Nat) (x : Int) (w : World) (g : Nat) (v : Value), RF w g v L → hgt L n x →
    Calls Tryz.prog 73 #[.pointer (some ⟨g, 0, none⟩), .int .i64 x] w fun e w' => ∃ v, e = .returned v ∧ LRes w w' (behN L n x) v ∧ Below w.heap.size w w'
  | 0, x, w, g, v, h, hh => by
    have e : chF L x = [] := hh
    have := rbehind_walk h hL x (fun _ => []) (fun c hc => by rw [e] at hc; cases hc) (fun c hc => by rw [e] at hc; cases hc) (fun k => by rw [e]; simp)
    rw [e] at this
    exact this
  | n + 1, x, w, g, v, h, hh => by
    have hlen : (x :: (chF L x).flatMap (behN L n)).length ≤ L.length + 1 := behN_len hW (n + 1) x hh
    exact rbehind_walk h hL x (behN L n) (fun c hc => ⟨behN_pos L n c, Nat.le_trans (behN_len hW n c (hh c hc)) (by omega)⟩) (fun c hc u q => rbehindN_any hW hL n c u g v (h.keep q) (hh c hc)) (fun k => by
      rw [List.length_cons] at hlen ⊢
      have := flat_take_le (f := behN L n) (chF L x) k
      omega)
theorem rbehind_any {w : World} {g : Nat} {v : Value} {L : FT} (h : RF w g v L) (hW : WF L) (hL : L.length ≤ 1000) (x : Int) :
    Calls Tryz.prog 73 #[.pointer (some ⟨g, 0, none⟩), .int .i64 x] w fun e w' => ∃ v, e = .returned v ∧ LRes w w' (beh L x) v ∧ Below w.heap.size w w' := rbehindN_any hW hL L.length x w g v h (hgt_all hW x)
/-- so far -/
def allT (ns l : List Int) (j : Nat) : Bool := (l.take j).all (fun a => !decide (a ∈ ns))
theorem allT_step {ns l : List Int} {j : Nat} {a : Int} (h : l[j]? = some a) : allT ns l (j + 1) = (allT ns l j && !decide (a ∈ ns)) := by
  unfold allT
  rw [List.take_add_one, h, List.all_append]
  simp
set_option maxHeartbeats 8000000 in
set_option maxRecDepth 100000 in
theorem runder_any {w : World} {g : Nat} {v : Value} {L : FT} (h : RF w g v L) (hW : WF L) (hL : L.length ≤ 1000) (a : Option Addr) (n cap : Nat) (l : List Int) (row : Row w a n l) (hn : n ≤ 10000) :
    Calls Tryz.prog 52 #[.pointer (some ⟨g, 0, none⟩), .slice a n cap] w fun e w' => ∃ v, e = .returned v ∧ LRes w w' (undL L l) v ∧ Below w.heap.size w w' := by
  have hg := h.blk.lt
  have HSo := Lib.hid (rsorted_any a n cap l w row hn)
  have HAb : Hid (∀ u z, Below w.heap.size w u → Calls Tryz.prog 55 #[.pointer (some ⟨g, 0, none⟩), .int .i64 z] u fun e w' => ∃ v, e = .returned v ∧ LRes u w' (abv L z) v ∧ Below u.heap.size u w') := Lib.hid (fun u z q => rabove_any (h.keep q) hW hL z)
  have HBe : Hid (∀ u z, Below w.heap.size w u → Calls Tryz.prog 73 #[.pointer (some ⟨g, 0, none⟩), .int .i64 z] u fun e w' => ∃ v, e = .returned v ∧ LRes u w' (beh L z) v ∧ Below u.heap.size u w') := Lib.hid (fun u z q => rbehind_any (h.keep q) hW hL z)
  have HAl : Hid (∀ z, (abv L z).length ≤ 1000) := Lib.hid (fun z => Nat.le_trans (abv_len hW z) hL)
  have HBl : Hid (∀ z, (beh L z).length ≤ 1001) := Lib.hid (fun z => Nat.le_trans (beh_len hW z) (by omega))
  obtain ⟨ns, hns⟩ : ∃ ns, ns = sortI l := ⟨_, rfl⟩
  have HUl : Hid (∀ k, k ≤ ns.length → (undN L ns k).length ≤ 11000) := Lib.hid (fun k hk => by
    have h1 := undN_mono (L := L) (ns := ns) hk
    have h2 := und_len hW (ns := ns) (by rw [hns]; exact sort_sorted l [] List.Pairwise.nil)
    have h3 : ns.length = n := by rw [hns, (sortI_perm l).length_eq, row.1]
    omega)
  have HNl : Hid (ns.length = n) := Lib.hid (by rw [hns, (sortI_perm l).length_eq, row.1])
  have HU : Hid (undL L l = undN L ns ns.length) := Lib.hid (by rw [hns]; rfl)
  rw [← hns] at HSo
  clear h hW row hns
  go_enter Tryz.func52, Tryz.ntmps52
  go_wp2_with fail
  refine HSo.out.mono ?_
  rintro e w1 ⟨v1, rfl, ⟨va, vcap, hv, vrow, -⟩, b1⟩
  subst hv
  rw [HNl.out] at vrow ⊢
  have HVr := Lib.hid vrow
  have HB1 := Lib.hid b1
  have hs1 : w.heap.size ≤ w1.heap.size := b1.size
  clear vrow b1 HSo
  go_wp2
  go_loopw [5, 7] (fun v5 i wr => ∃ k : Nat, k ≤ n ∧ i = .int .i64 k ∧ OwnD wr w1.heap.size v5 (undN L ns k).length (undN L ns k) ∧ Below w1.heap.size w1 wr) (fun _ i _ => n - (ivl i).toNat)
  case atStart => exact ⟨0, by omega, rfl, OwnD.nil _ _, Below.refl _ _⟩
  case round =>
    obtain ⟨k, hk, rfl, hown, hb⟩ := hrel
    have HOwn := Lib.hid hown
    have HB := Lib.hid hb
    have HBw := Lib.hid (bthen HB1.out hb)
    have hsz : w1.heap.size ≤ wr.heap.size := hb.size
    have hgw : g < wr.heap.size := Nat.lt_of_lt_of_le (Nat.lt_of_lt_of_le hg hs1) hsz
    have HRow := Lib.hid (row_keep HVr.out hb)
    clear hown hb
    by_cases hlt : k < n
    · obtain ⟨b, off, z, rfl, hz, cz⟩ := row_at HRow.out hlt
      have hbl := World.block_lt_of_cell? _ _ cz
      have HZ : Hid (ns.getD k 0 = z) := Lib.hid (by rw [List.getD, hz]; rfl)
      have k0 : (0 : Int) ≤ (k : Int) := by omega
      have k1 : (k : Int) < (n : Int) := by omega
      obtain ⟨t0, ht0⟩ : ∃ t0 : Bool, t0 = (decide (k = 0) || decide (ns.getD k 0 ≠ ns.getD (k - 1) 0)) := ⟨_, rfl⟩
      have HT0 := Lib.hid ht0
      clear hz ht0
      go_upto_region 6 with fail
      go_cut [8] from 14 to 65 (fun s wx => s = .bool t0 ∧ ∃ q, wx = wr.drewN q)
      case first =>
        by_cases hk0 : k = 0
        · subst hk0
          have et : t0 = true := by rw [HT0.out]; rfl
          subst et
          go_wp2
          go_quiet (fail)
          go_wp2_with fail
          go_meet
          exact ⟨rfl, nq, rfl⟩
        · obtain ⟨j, hj⟩ : ∃ j, k = j + 1 := ⟨k - 1, by omega⟩
          obtain ⟨b', off', y, e', hy, cy⟩ := row_at HRow.out (show j < n by omega)
          injection e' with e'
          injection e' with e1 e2 _
          subst e1
          subst e2
          have hne : ((k : Int) == 0) = false := by simp; omega
          have et : t0 = (z != y) := by
            rw [HT0.out, HZ.out]
            have hy2 : ns.getD (k - 1) 0 = y := by rw [show k - 1 = j by omega, List.getD, hy]; rfl
            rw [hy2, decide_eq_false hk0]
            by_cases q : z = y <;> simp [q]
          have he := et.symm
          have hsub : (k : Int) - 1 = (j : Int) := by omega
          have j0 : (0 : Int) ≤ (j : Int) := by omega
          have j1 : (j : Int) < (n : Int) := by omega
          clear hy et hj hk0
          go_wp2
          go_quiet (fail)
          go_wp2_with fail
          go_meet
          exact ⟨rfl, nq, rfl⟩
      case rest =>
        obtain ⟨hs8, q, hq⟩ := hcut
        subst hs8
        have bq : Below wr.heap.size wr wc := by rw [hq]; exact Go.below_drewN (Below.refl _ _) q
        replace HOwn := Lib.hid (ownD_keep HOwn.out bq)
        replace HB := Lib.hid (bthen HB.out bq)
        replace HBw := Lib.hid (bthen HBw.out bq)
        replace HRow := Lib.hid (row_keep HRow.out bq)
        replace cz := cell_keep cz bq
        have hblc := World.block_lt_of_cell? _ _ cz
        have hszc : w1.heap.size ≤ wc.heap.size := HB.out.size
        clear hq bq hbl hgw
        have HA := Lib.hid (HAb.out wc z HBw.out)
        have hal := HAl.out z
        obtain ⟨A, hA⟩ : ∃ A, A = abv L z := ⟨_, rfl⟩
        have HT : Hid (topB L ns k = (t0 && allT ns A A.length)) := Lib.hid (by
          unfold topB allT
          rw [HZ.out, ← hA, HT0.out, HZ.out, List.take_length])
        rw [← hA] at HA hal
        obtain ⟨na, hna⟩ : ∃ na, na = A.length := ⟨_, rfl⟩
        rw [← hna] at hal HT
        have HNa := Lib.hid hna
        clear hA hna
        go_wp2_with fail
        refine HA.out.mono ?_
        rintro e w2 ⟨v2, rfl, ⟨aa, acap, hv2, arow, -⟩, b2⟩
        subst hv2
        rw [← HNa.out] at arow ⊢
        have HAr := Lib.hid arow
        have habig := arow.2.1
        replace HOwn := Lib.hid (ownD_keep HOwn.out b2)
        replace HB := Lib.hid (bthen HB.out b2)
        replace HBw := Lib.hid (bthen HBw.out b2)
        replace HRow := Lib.hid (row_keep HRow.out b2)
        replace cz := cell_keep cz b2
        have hbl2 := World.block_lt_of_cell? _ _ cz
        have hsz2 : w1.heap.size ≤ w2.heap.size := HB.out.size
        have hg2 : g < w2.heap.size := Nat.lt_of_lt_of_le hg HBw.out.size
        clear arow b2 HA hblc hszc hsz
        go_wp2
        go_loopw [8, 10] (fun v8 i wx => ∃ j : Nat, j ≤ na ∧ i = .int .i64 j ∧ v8 = .bool (t0 && allT ns A j) ∧ wx = w2) (fun _ i _ => na - (ivl i).toNat)
        case atStart => exact ⟨0, by omega, rfl, by unfold allT; simp, rfl⟩
        case round =>
          obtain ⟨j, hj, rfl, rfl, rfl⟩ := hrel
          obtain ⟨tb, htb⟩ : ∃ tb, tb = (t0 && allT ns A j) := ⟨_, rfl⟩
          rw [← htb]
          by_cases hjl : j < na
          · obtain ⟨b3, off3, y, rfl, hy, cy⟩ := row_at HAr.out hjl
            have hbl3 := World.block_lt_of_cell? _ _ cy
            have j0 : (0 : Int) ≤ (j : Int) := by omega
            have j1 : (j : Int) < (na : Int) := by omega
            obtain ⟨hb, hhb⟩ : ∃ hb, hb = decide (y ∈ ns) := ⟨_, rfl⟩
            have HHas := Lib.hid (plhas_any (some ⟨b, off, none⟩) n vcap ns y _ HRow.out)
            rw [← hhb] at HHas
            have HSt : Hid ((t0 && allT ns A (j + 1)) = (tb && !hb)) := Lib.hid (by rw [allT_step hy, htb, hhb, Bool.and_assoc])
            clear hy hhb htb
            go_wp2_with fail
            refine HHas.out.mono ?_
            rintro e w3 ⟨rfl, rfl⟩
            cases tb with
            | false =>
              go_wp2
              go_roundw
              case rel => exact ⟨j + 1, by omega, by go_num, by rw [HSt.out]; rfl, by trivial⟩
              case measure => simp [ivl] <;> omega
            | true =>
              go_wp2
              go_roundw
              case rel => exact ⟨j + 1, by omega, by go_num, by rw [HSt.out]; rfl, by trivial⟩
              case measure => simp [ivl] <;> omega
          · obtain rfl : j = na := by omega
            rw [← htb] at HT
            clear htb
            have j1 : ¬ (j : Int) < (j : Int) := by omega
            cases tb with
            | false =>
              have HQ := Lib.hid (undN_no (L := L) (ns := ns) (k := k) HT.out)
              go_wp2
              go_roundw
              case rel => exact ⟨k + 1, by omega, by go_num, by rw [HQ.out]; exact HOwn.out, HB.out⟩
              case measure => simp [ivl] <;> omega
            | true =>
              have HQ := Lib.hid (undN_yes (L := L) (ns := ns) (k := k) HT.out)
              rw [HZ.out] at HQ
              have HIk := Lib.hid (HBe.out _ z HBw.out)
              have hyl := HBl.out z
              have hql := HUl.out (k + 1) (by rw [HNl.out]; omega)
              rw [HQ.out, List.length_append] at hql
              obtain ⟨Y, hY⟩ : ∃ Y, Y = beh L z := ⟨_, rfl⟩
              rw [← hY] at HQ HIk hyl hql
              obtain ⟨Q, hQ⟩ : ∃ Q, Q = undN L ns k := ⟨_, rfl⟩
              rw [← hQ] at HQ HOwn hql
              obtain ⟨mq, hmq⟩ : ∃ mq, mq = Q.length := ⟨_, rfl⟩
              rw [← hmq] at HOwn hql
              have HMq := Lib.hid hmq
              obtain ⟨ny, hny⟩ : ∃ ny, ny = Y.length := ⟨_, rfl⟩
              rw [← hny] at hyl hql
              have HNy := Lib.hid hny
              clear hY hQ hmq hny
              go_wp2_with fail
              refine HIk.out.mono ?_
              rintro e w4 ⟨v4, rfl, ⟨ya, ycap, hv4, yrow, -⟩, b4⟩
              subst hv4
              rw [← HNy.out] at yrow ⊢
              have HYr := Lib.hid yrow
              replace HOwn := Lib.hid (ownD_keep HOwn.out b4)
              replace HB := Lib.hid (bthen HB.out b4)
              have hsz4 : w1.heap.size ≤ w4.heap.size := HB.out.size
              clear yrow b4 HIk
              go_wp2_with (at_builtin; refine wpList_cat9 rfl (.tmp 58) (.tmp 64) rfl w1.heap.size mq u5 Q rfl HOwn.out ya ny ycap Y rfl HYr.out (by omega) (by omega) hsz4 ?_)
              intro v' w5 ho hgr
              have HO5 := Lib.hid ho
              have HB5 := Lib.hid (own_below9 HOwn.out (Nat.le_refl _) HB.out hgr)
              clear ho hgr
              go_wp2
              go_roundw
              case rel =>
                refine ⟨k + 1, by omega, by go_num, ?_, HB5.out⟩
                rw [HQ.out, List.length_append, ← HMq.out, ← HNy.out]
                exact HO5.out
              case measure => simp [ivl] <;> omega
    · obtain rfl : k = n := by omega
      have e0 : k = ns.length := HNl.out.symm
      have HR : Hid (undL L l = undN L ns k) := Lib.hid (by rw [HU.out, ← e0])
      have HLr := Lib.hid (LRes.of9 (w := w) HOwn.out hs1)
      obtain ⟨qa, qcap, hqv, _⟩ := HOwn.out.row
      subst hqv
      clear e0
      have j1 : ¬ (k : Int) < (k : Int) := by omega
      go_wp2
      go_ret
      exact ⟨_, rfl, by rw [HR.out]; exact HLr.out, HBw.out⟩

end Go.Proofs.YtdndafdninnjfaaGreat
