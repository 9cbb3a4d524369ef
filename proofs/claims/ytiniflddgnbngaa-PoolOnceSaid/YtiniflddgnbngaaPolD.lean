/-
  No name is given twice: what the law's list of given names keeps; the law's walk, for any pool that answers as the bundle says.
-/
import Derived.Test.YtiniflddgnbngaaPolC
namespace Go.Proofs.Ytiniflddgnbngaa
open Go.RowKit

/-- a slice of integers of any kind -/
def RowK (k : IntKind) (w : World) (a : Option Addr) (len : Nat) (zs : List Int) : Prop :=
  zs.length = len ∧ len ≤ 9223372036854775807 ∧ (len = 0 ∨ ∃ b off, a = some ⟨b, off, none⟩ ∧ ∀ i, i < len → w.cell? ⟨b, off + i, none⟩ = some (.int k (zs.getD i 0)))
theorem rowK_keep {k : IntKind} {w w' : World} {a : Option Addr} {len : Nat} {zs : List Int} (h : RowK k w a len zs) (hb : Below w.heap.size w w') : RowK k w' a len zs := by
  obtain ⟨h1, h2, h3⟩ := h
  refine ⟨h1, h2, ?_⟩
  rcases h3 with h3 | ⟨b, off, e, hc⟩
  · exact Or.inl h3
  · exact Or.inr ⟨b, off, e, fun i hi => cell_keep (hc i hi) hb⟩
theorem rowK_at {q : IntKind} {w : World} {a : Option Addr} {len : Nat} {zs : List Int} (h : RowK q w a len zs) {k : Nat} (hk : k < len) : ∃ b off x, a = some ⟨b, off, none⟩ ∧ zs[k]? = some x ∧ w.cell? ⟨b, off + k, none⟩ = some (.int q x) := by
  obtain ⟨h1, h2, h3⟩ := h
  rcases h3 with h3 | ⟨b, off, rfl, hc⟩
  · omega
  · have hk' : k < zs.length := by omega
    have c := hc k hk
    rw [show zs.getD k 0 = zs[k] by simp [List.getD, List.getElem?_eq_getElem hk']] at c
    exact ⟨b, off, _, rfl, List.getElem?_eq_getElem hk', c⟩

theorem ownD_far {w w' : World} {base g : Nat} {v : Value} {n : Nat} {zs : List Int} (h : OwnD w base v n zs) (hg : w.grownBy w' (some g)) (hb : g < base) : OwnD w' base v n zs := by
  refine ⟨h.1, ?_⟩
  rcases h.2 with h0 | ⟨k, cap, cur, e, hbs, hh, r⟩
  · exact .inl h0
  · refine .inr ⟨k, cap, cur, e, hbs, ?_, r⟩
    have hlt : k < w.heap.size := (Array.getElem?_eq_some_iff.1 hh).1
    rw [hg.block k hlt (by simp; omega)]
    exact hh
theorem grownD_blk {wr w' : World} {base g : Nat} {v : Value} {n : Nat} {zs : List Int} {o : Obj} (ho : OwnD wr base v n zs) (hB : g < base) (hlt : g < wr.heap.size) (hg : (wr.alloc o).grownBy w' v.ownBlock) : w'.heap[g]? = wr.heap[g]? := by
  rw [hg.block g (by simp; omega) (fun e => by have := World.ownsRow.lt ho g e.symm; omega)]
  exact Below.heap_alloc wr o g hlt
theorem ownD_keep {wr w2 : World} {base : Nat} {v : Value} {n : Nat} {zs : List Int} (h : OwnD wr base v n zs) (hb : Below wr.heap.size wr w2) : OwnD w2 base v n zs := by
  refine ⟨h.1, ?_⟩
  rcases h.2 with h0 | ⟨k, cap, cur, e, hbs, hh, r⟩
  · exact .inl h0
  · refine .inr ⟨k, cap, cur, e, hbs, ?_, r⟩
    rw [hb.block k (Array.getElem?_eq_some_iff.1 hh).1]
    exact hh

/-- a name that was given -/
def Past (G : Nat → Int) (L : Nat → Bool) (z : Int) : Prop := ∃ i : Nat, ∃ q : Int, i < 256 ∧ z = nm q i ∧ (q < G i ∨ (q = G i ∧ L i = true))
theorem past_take {G : Nat → Int} {L : Nat → Bool} {R : Nat} {z : Int} (h : Past G L z) : Past G (tkL G L R) z := by
  unfold tkL
  cases e : tkI G L R with
  | none => exact h
  | some j =>
    obtain ⟨i, q, hi, hz, hq⟩ := h
    refine ⟨i, q, hi, hz, ?_⟩
    rcases hq with hq | ⟨hq, hl⟩
    · exact .inl hq
    · refine .inr ⟨hq, ?_⟩
      unfold upd
      by_cases c : i = j
      · simp only [if_pos c]
      · simp only [if_neg c]; exact hl
theorem past_new {G : Nat → Int} {L : Nat → Bool} {R i : Nat} (h : tkI G L R = some i) (hR : R ≤ 256) : Past G (tkL G L R) (nm (G i) i) := by
  have hs := tk_spec h
  refine ⟨i, G i, by omega, rfl, .inr ⟨rfl, ?_⟩⟩
  unfold tkL
  rw [h]
  unfold upd
  simp
theorem past_fresh {G : Nat → Int} {L : Nat → Bool} {R i : Nat} {z : Int} (h : tkI G L R = some i) (hR : R ≤ 256) (hp : Past G L z) : z ≠ nm (G i) i := by
  have hs := tk_spec h
  obtain ⟨j, q, hj, rfl, hq⟩ := hp
  intro e
  unfold nm at e
  obtain rfl : j = i := by omega
  rcases hq with hq | ⟨_, hl⟩
  · omega
  · rw [hs.2.1] at hl; cases hl
theorem past_drop {G : Nat → Int} {L : Nat → Bool} {z : Int} (x : Int) (h : Past G L z) : Past (drG G L x) (drL G L x) z := by
  unfold drG drL
  by_cases c : liveB G L x = true
  · rw [if_pos c, if_pos c]
    obtain ⟨i, q, hi, hz, hq⟩ := h
    refine ⟨i, q, hi, hz, ?_⟩
    unfold upd
    by_cases d : i = (x % 256).toNat
    · simp only [if_pos d]
      rw [← d]
      rcases hq with hq | ⟨hq, _⟩
      · exact .inl (by omega)
      · exact .inl (by omega)
    · simp only [if_neg d]; exact hq
  · rw [if_neg c, if_neg c]; exact h
theorem id_nm {q : Int} {i : Nat} (hi : i < 256) (h0 : 0 ≤ q) (h1 : q ≤ 65535) : idOk (nm q i) = true := by unfold idOk nm; simp; omega
theorem live_nm {G : Nat → Int} {L : Nat → Bool} {i : Nat} (hi : i < 256) (h0 : 0 ≤ G i) (h1 : G i ≤ 65535) (hl : L i = true) : liveB G L (nm (G i) i) = true := by
  unfold liveB
  rw [id_nm hi h0 h1, show (nm (G i) i % 256).toNat = i by unfold nm; omega, hl, show nm (G i) i / 256 = G i by unfold nm; omega]
  simp
theorem live_new {G : Nat → Int} {L : Nat → Bool} {R i : Nat} (h : tkI G L R = some i) (hp : POk R G L) : liveB G (tkL G L R) (nm (G i) i) = true := by
  have hs := tk_spec h
  have h1 := hp.1
  refine live_nm (by omega) (hp.2.1 i).1 hs.2.2 ?_
  unfold tkL
  rw [h]
  unfold upd
  simp
theorem live_all {G : Nat → Int} {L : Nat → Bool} {R : Nat} {x : Int} (hp : POk R G L) (h : x ∈ allL G L 256) : liveB G L x = true := by
  unfold allL at h
  rw [List.mem_map] at h
  obtain ⟨i, hi, rfl⟩ := h
  rw [List.mem_filter] at hi
  exact live_nm (by simpa using hi.1) (hp.2.1 i).1 (hp.2.2 i hi.2).2 hi.2

theorem tk_none_v {G : Nat → Int} {L : Nat → Bool} {R : Nat} (h : tkI G L R = none) : tkV G L R = 0 ∧ tkE G L R = 3 ∧ tkL G L R = L := by unfold tkV tkE tkL; rw [h]; exact ⟨rfl, rfl, rfl⟩
theorem tk_some_v {G : Nat → Int} {L : Nat → Bool} {R i : Nat} (h : tkI G L R = some i) : tkV G L R = nm (G i) i ∧ tkE G L R = 0 := by unfold tkV tkE; rw [h]; exact ⟨rfl, rfl⟩

set_option maxHeartbeats 400000 in
theorem once_many {T : TypeId} {n : Nat} {F : Nat → (Nat → Int) → (Nat → Bool) → Nat → Value} (C : PC T n F) (r : Int) (a : Option Addr) (len cap : Nat) (w : World) (h : 600 < len) (hbig : len ≤ 9223372036854775807) :
    Calls Try.prog 4 #[.int .u8 r, .slice a len cap] w fun e w' => e = .returned (.bool true) ∧ Below w.heap.size w w' := by
  have HC := Lib.hid C
  clear C
  go_enter Try.func4, Try.ntmps4
  go_wp2_with fail
  refine (plalive_any HC.out _).mono ?_
  rintro e w1 ⟨rfl, b1⟩
  have B1 := Lib.hid b1
  clear b1
  go_wp2
  go_ret
  exact ⟨rfl, B1.out⟩

set_option maxHeartbeats 4000000 in
theorem once_few {T : TypeId} {n : Nat} {F : Nat → (Nat → Int) → (Nat → Bool) → Nat → Value} (C : PC T n F) (R : Nat) (a : Option Addr) (len cap : Nat) (bs : List Int) (w : World) (hR : R ≤ 255) (h : len ≤ 600) (row : RowK .u8 w a len bs) (hbs : ∀ z ∈ bs, 0 ≤ z ∧ z ≤ 255) :
    Calls Try.prog 4 #[.int .u8 (R : Int), .slice a len cap] w fun e w' => e = .returned (.bool true) ∧ Below w.heap.size w w' := by
  have HC := Lib.hid C
  have HRow := Lib.hid row
  have HBs := Lib.hid hbs
  clear C row hbs
  obtain ⟨i0, hi0, hz0, hz1, hz2⟩ := info_parts id_info
  have HI := Lib.hid (And.intro hi0 (And.intro hz0 (And.intro hz1 hz2)))
  clear hi0 hz0 hz1 hz2
  have hwR : IntKind.i64.wrap (R : Int) = (R : Int) := IntWalk.i64_in _ (by omega)
  go_enter Try.func4, Try.ntmps4
  go_wp2_with fail
  refine (HC.out.new _ R (by omega)).mono ?_
  rintro e w1 ⟨g, rfl, hg, hr, hb⟩
  have HR := Lib.hid hr
  have HB := Lib.hid hb
  have hgl : g < w1.heap.size := hr.lt
  have hle : w.heap.size ≤ w1.heap.size := hb.size
  clear hr hb
  go_wp2
  go_loopw [7, 8] (fun v i wr => ∃ k : Nat, ∃ zs : List Int, ∃ G : Nat → Int, ∃ L : Nat → Bool, k ≤ len ∧ i = .int .i64 k ∧ OwnD wr w1.heap.size v zs.length zs ∧ zs.length ≤ k ∧ POk R G L ∧ (∀ z ∈ zs, Past G L z) ∧ wr.rowIs g T n (F R G L) ∧ Below w.heap.size w wr ∧ w1.heap.size ≤ wr.heap.size) (fun _ i _ => len - (intOf i).toNat)
  case atStart => exact ⟨0, [], z0, n0, by omega, rfl, OwnD.nil _ _, by simp, POk.zero (by omega), (fun z hz => by cases hz), HR.out, HB.out, Nat.le_refl _⟩
  case round =>
    clear HR HB
    obtain ⟨k, zs, G, L, hk, rfl, hown, hzl, hpok, hpast, hr, hb, hsz⟩ := hrel
    have HOwn := Lib.hid hown
    have HPok := Lib.hid hpok
    have HPast := Lib.hid hpast
    have HR := Lib.hid hr
    have HB := Lib.hid hb
    clear hown hpok hpast hr hb
    by_cases hlt : k < len
    · obtain ⟨b, off, y, rfl, hv, c0⟩ := rowK_at (rowK_keep HRow.out HB.out) hlt
      have hy := HBs.out y (List.mem_of_getElem? hv)
      clear hv
      have hk0 : (0 : Int) ≤ (k : Int) := by omega
      have hk1 : (k : Int) < (len : Int) := by omega
      by_cases hy1 : y < 128
      · go_wp2_with fail
        refine (HC.out.take _ g R G L HPok.out HR.out).mono ?_
        rintro e w2 ⟨rfl, hr, hgr⟩
        replace HR := Lib.hid hr
        replace HB := Lib.hid (grown_keep hgr HB.out HB.out.size hg)
        replace HOwn := Lib.hid (ownD_far HOwn.out hgr hgl)
        have hsz2 : w1.heap.size ≤ w2.heap.size := Nat.le_trans hsz hgr.size
        have HP2 := Lib.hid HPok.out.take
        clear hr hgr hsz c0
        obtain ⟨pa, pcap, rfl, hrow⟩ := HOwn.out.row
        have HRw := Lib.hid hrow
        clear hrow
        cases ht : tkI G L R with
        | none =>
          obtain ⟨e1, e2, e3⟩ := tk_none_v ht
          rw [e1, e2]
          rw [e3] at HR
          clear e1 e2 e3 ht HP2
          go_wp2_with fail
          refine (phas_any _ _ _ zs 0 _ HRw.out).mono ?_
          rintro e w3 ⟨rfl, rfl⟩
          go_wp2
          go_roundw
          case rel => exact ⟨k + 1, zs, G, L, by omega, by go_num, HOwn.out, by omega, HPok.out, HPast.out, HR.out, HB.out, hsz2⟩
          case measure => simp [intOf] <;> omega
        | some i =>
          obtain ⟨e1, e2⟩ := tk_some_v ht
          rw [e1, e2]
          have HNew := Lib.hid (And.intro (past_new ht HPok.out.1) (live_new ht HPok.out))
          have hf : decide (nm (G i) i ∈ zs) = false := by
            rw [decide_eq_false_iff_not]
            exact fun hm => past_fresh ht HPok.out.1 (HPast.out _ hm) rfl
          obtain ⟨x, hx⟩ : ∃ x, x = nm (G i) i := ⟨_, rfl⟩
          rw [← hx] at hf HNew
          rw [← hx]
          have HF := Lib.hid hf
          clear e1 e2 hx ht hf
          go_wp2_with fail
          refine (phas_any _ _ _ zs x _ HRw.out).mono ?_
          rintro e w3 ⟨rfl, rfl⟩
          rw [HF.out]
          go_wp2_with fail
          refine (HC.out.live _ g R G _ x HP2.out HR.out).mono ?_
          rintro e w4 ⟨rfl, hb⟩
          rw [HNew.out.2]
          replace HR := Lib.hid (World.rowIs.keep HR.out hb)
          replace HB := Lib.hid (bthen HB.out hb)
          replace HOwn := Lib.hid (ownD_keep HOwn.out hb)
          have hsz3 : w1.heap.size ≤ w4.heap.size := Nat.le_trans hsz2 hb.size
          clear hb hsz2 HRw HF
          go_wp2_with (at_builtin; refine wpList_append_own _ rfl (.tmp 61) (.tmp 63) 36 rfl w1.heap.size 23 i0 (.int .i64 0) 1 8 Try.underlying36 HI.out.1 HI.out.2.1 HI.out.2.2.1 HI.out.2.2.2 rfl (by decide) _ _ _ rfl (HOwn.out.alloc _) ⟨w4.heap.size, 0, none⟩ 1 1 [.int .i64 x] rfl rfl (cell_one_new _ _ _) (by intro u hu; simp at hu; subst hu; rfl) (by unfold maxLen; omega) (by omega) (by simp; omega) ?_)
          intro v' w5 hown' hgrow _
          have HOwn' := Lib.hid hown'
          have HGr := Lib.hid hgrow
          clear hown' hgrow
          go_wp2
          go_roundw
          case rel =>
            refine ⟨k + 1, zs ++ [x], G, _, by omega, by go_num, ?_, by simp; omega, HP2.out, fun z hz => ?_, HR.out.of_block (grownD_blk HOwn.out hgl (HR.out.lt) HGr.out), grownD_below HOwn.out hle HB.out HB.out.size HGr.out, ?_⟩
            · unfold OwnD
              rw [List.length_append, List.map_append]
              exact HOwn'.out
            · rcases List.mem_append.1 hz with hz | hz
              · exact past_take (HPast.out z hz)
              · rw [List.mem_singleton.1 hz]; exact HNew.out.1
            · have := HGr.out.size; simp at this; omega
          case measure => simp [intOf] <;> omega
      · go_wp2_with fail
        refine (HC.out.all _ g R G L HPok.out HR.out).mono ?_
        rintro e w2 ⟨pa, pcap, rfl, hrow, hb⟩
        replace HR := Lib.hid (World.rowIs.keep HR.out hb)
        have c1 := cell_keep c0 hb
        replace HB := Lib.hid (bthen HB.out hb)
        replace HOwn := Lib.hid (ownD_keep HOwn.out hb)
        have hsz2 : w1.heap.size ≤ w2.heap.size := Nat.le_trans hsz hb.size
        have HRw := Lib.hid hrow
        have HLv := Lib.hid (fun x (hx : x ∈ allL G L 256) => live_all HPok.out hx)
        clear hb hrow c0 hsz
        have hl0 := all_len G L 256
        obtain ⟨m, hm⟩ : ∃ m, m = (allL G L 256).length := ⟨_, rfl⟩
        rw [← hm] at HRw hl0
        rw [← hm]
        clear hm
        by_cases hm0 : m = 0
        · subst hm0
          go_wp2
          go_roundw
          case rel => exact ⟨k + 1, zs, G, L, by omega, by go_num, HOwn.out, by omega, HPok.out, HPast.out, HR.out, HB.out, hsz2⟩
          case measure => simp [intOf] <;> omega
        · obtain ⟨d, hd, hdm⟩ : ∃ d : Nat, (y.tmod (m : Int)) = (d : Int) ∧ d < m := by
            obtain ⟨yn, rfl⟩ := Int.eq_ofNat_of_zero_le hy.1
            refine ⟨yn % m, ?_, Nat.mod_lt _ (by omega)⟩
            rw [Int.tmod_eq_emod_of_nonneg (by omega)]; omega
          obtain ⟨p, po, x, rfl, hx, cx⟩ := row_at HRw.out hdm
          have HX := Lib.hid (HLv.out x (List.mem_of_getElem? hx))
          clear hx HLv
          have hwy : IntKind.i64.wrap y = y := IntWalk.i64_in _ (by omega)
          have hm1 : ((0 : Int) < (m : Int)) := by omega
          have hmz : ((m : Int) == 0) = false := by simp; omega
          have hd0 : (0 : Int) ≤ (d : Int) := by omega
          have hd1 : (d : Int) < (m : Int) := by omega
          go_wp2_with fail
          refine (HC.out.drop _ g R G L x HPok.out HR.out).mono ?_
          rintro e w3 ⟨rfl, hr, hgr⟩
          rw [HX.out]
          replace HR := Lib.hid hr
          replace HB := Lib.hid (grown_keep hgr HB.out HB.out.size hg)
          replace HOwn := Lib.hid (ownD_far HOwn.out hgr hgl)
          have hsz3 : w1.heap.size ≤ w3.heap.size := Nat.le_trans hsz2 hgr.size
          clear hr hgr hsz2 cx c1
          go_wp2
          go_roundw
          case rel => exact ⟨k + 1, zs, _, _, by omega, by go_num, HOwn.out, by omega, HPok.out.drop x, (fun z hz => past_drop x (HPast.out z hz)), HR.out, HB.out, hsz3⟩
          case measure => simp [intOf] <;> omega
    · go_wp2_with fail
      refine (plalive_any HC.out _).mono ?_
      rintro e w5 ⟨rfl, b5⟩
      replace HB := Lib.hid (bthen HB.out b5)
      clear b5
      go_wp2
      go_ret
      exact ⟨rfl, HB.out⟩

end Go.Proofs.Ytiniflddgnbngaa
