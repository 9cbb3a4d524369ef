/-
  7 texts in one file, each with its own heading.
-/
import Derived.Test.YthhfcedhbfandaaGreatMS39
import Derived.Test.YthhfcedhbfandaaGreatMS36
import Derived.Test.YthhfcedhbfandaaGreatMS26
import Derived.Test.YthhfcedhbfandaaGreatMS35
import Derived.Test.YthhfcedhbfandaaGreatMS08
import Derived.Lib.AppendZerosOnto
import Derived.Test.YthhfcedhbfandaaGreatMS18
import Derived.Test.YthhfcedhbfandaaGreatMS24
import Derived.Test.YthhfcedhbfandaaGreatMS25
/-
  A scene and its extract on their way through steps; ExtractAnew of layer 13 answers true, for any packages that answer as the bundles say.
-/
namespace Go.Proofs.YthhfcedhbfandaaGreat
open Go.RowKit

structure St13 (EB : World → Nat → (Nat → Prop) → XS → Prop) (XB : World → Nat → (Nat → Prop) → Sc → Prop) (w0 W : World) (g gs : Nat) (F Fs : Nat → Prop) (E : XS) (X : Sc) (m k : Nat) : Prop where
  du : Du EB XB w0 W g gs F Fs E X
  sx : SX3 X
  ek : EOk X E
  bs : BSc X m
  eb : EBd E k
  lo : ∀ p ∈ E.S, p.2 < 12
  rm : X.S.room = 12
section
variable {EB : World → Nat → (Nat → Prop) → XS → Prop} {XB : World → Nat → (Nat → Prop) → Sc → Prop} {w0 W W' : World} {g gs : Nat} {F Fs : Nat → Prop} {E : XS} {X : Sc} {m k : Nat}
theorem St13.keep (kE : KB EB) (kX : KB XB) (h : St13 EB XB w0 W g gs F Fs E X m k) (hb : Below W.heap.size W W') : St13 EB XB w0 W' g gs F Fs E X m k := ⟨h.du.keep kE kX hb, h.sx, h.ek, h.bs, h.eb, h.lo, h.rm⟩
theorem St13.mono (h : St13 EB XB w0 W g gs F Fs E X m k) {m' k' : Nat} (h1 : m ≤ m') (h2 : k ≤ k') : St13 EB XB w0 W g gs F Fs E X m' k' := ⟨h.du, h.sx, h.ek, h.bs.mono h1, h.eb.mono h2, h.lo, h.rm⟩
theorem St13.act (hX : XC XB) (kE : KB EB) (h : St13 EB XB w0 W g gs F Fs E X m k) (hm : m ≤ 240) {x : A11} (hok : ok11 w0 x) (hn : x.n ≤ 40) :
    Calls Tryz.prog 18 #[.pointer (some ⟨gs, 0, none⟩), .agg (c11 x).toArray] W fun e w' => (∃ v, e = .returned v) ∧ ∃ Fs', St13 EB XB w0 w' g gs F Fs' E (doX X x) (m + 2) k := by
  refine (do11_any hX h.du.xb h.sx.wx (h.bs.mono (by omega)) x (hok.keep h.du.be) (aw_in hok.2.2.2.2.2.2 h.du.f1) (by omega)).mono ?_
  rintro e w' ⟨rfl, hc⟩
  obtain ⟨Fs', k1, -, -⟩ := h.du.sc kE hc
  exact ⟨⟨_, rfl⟩, Fs', k1, h.sx.does x, h.ek.does x, h.bs.does h.sx.wx x, h.eb, h.lo, (room_does X x).trans h.rm⟩
theorem St13.sync (hE : EC EB XB) (h : St13 EB XB w0 W g gs F Fs E X m k) (hm : m ≤ 240) (hk : k ≤ 90) :
    Calls Tryz.prog 13 #[.pointer (some ⟨g, 0, none⟩), .pointer (some ⟨gs, 0, none⟩)] W fun e w' => ∃ a n cap zs er E' F' Fs', e = .returned (.tuple #[.slice a n cap, .int .i64 er]) ∧ n = zs.length ∧ Row w' a n zs ∧ Synced X E zs er E' ∧ St13 EB XB w0 w' g gs F' Fs' E' (xneS X) (m + 2) (k + 1) ∧ (∀ b, F' b → F b ∨ W.heap.size ≤ b) ∧ (∀ b, Fs' b → Fs b ∨ W.heap.size ≤ b) ∧ Fr W w' (fun b => F b ∨ Fs b) ∧ (n = 0 ∨ ∀ ad, a = some ad → W.heap.size ≤ ad.block) := by
  refine (du_sync hE h.du h.sx h.ek (h.bs.mono (by omega)) (h.eb.mono (by omega)) (fun p hp => by have := h.lo p hp; omega) (by have := h.rm; omega)).mono ?_
  rintro e w' ⟨a, n, cap, zs, er, E', F', Fs', rfl, hn, row, hs, k1, k2, k3, k4, k5⟩
  exact ⟨a, n, cap, zs, er, E', F', Fs', rfl, hn, row, hs, ⟨k1, h.sx.ne, hs.next h.sx h.ek, h.bs.ne, hs.bd h.sx h.ek (h.bs.mono (by omega)) h.eb, hs.below (m := 12) h.sx h.ek h.rm h.lo, h.rm⟩, k2, k3, k4, k5⟩
theorem St13.recs (hE : EC EB XB) {Y : Sc} {E : XS} (heb : EB W g F E) (hek : EOk Y E) : Calls Tryz.prog 20 #[.pointer (some ⟨g, 0, none⟩)] W fun e w' => ∃ a cap, e = .returned (.slice a E.R.length cap) ∧ RcRow w' a E.R.length E.R ∧ (∀ ad, a = some ad → W.heap.size ≤ ad.block) ∧ Below W.heap.size W w' := by
  have hl := hek.rlen
  refine (hE.records W g F E heb (by omega)).mono ?_
  rintro e w' ⟨v, rfl, ho, hb⟩
  obtain ⟨a, cap, rfl, _, _, row⟩ := ho.row cRc_len
  refine ⟨a, cap, rfl, row, fun ad e => ?_, hb⟩
  subst e
  rcases ho.2 with ⟨e2, _⟩ | ⟨g2, cp, cur, e2, hb2, _⟩
  · injection e2 with e3 _ _; cases e3
  · injection e2 with e3 _ _
    injection e3 with e3
    rw [e3]; exact hb2
theorem rcrow_fr {G : Nat → Prop} {a : Option Addr} {n : Nat} {R : List Rc} (row : RcRow W a n R) (h : Fr W W' G) (hG : ∀ ad, a = some ad → ¬ G ad.block) : RcRow W' a n R := by
  refine ⟨row.1, row.2.1, row.2.2.imp id ?_⟩
  rintro ⟨b, off, rfl, hb, hr⟩
  exact ⟨b, off, rfl, Nat.lt_of_lt_of_le hb h.2.2.2.1, fun i x hx => range_same (hr i x hx) (h.2.2.2.2 b hb (hG _ rfl))⟩
end
theorem World.heap_alloc_at13 (w : World) (o : Obj) : (w.alloc o).heap[w.heap.size]? = some o := by
  show (w.heap.push o)[w.heap.size]? = some o
  exact Array.getElem?_push_size
set_option maxHeartbeats 4000000 in
set_option maxRecDepth 100000 in
theorem grow0_any (n : Nat) (w : World) (hn : n ≤ 100000) :
    Calls Tryz.prog 133 #[.slice none 0 0, .int .i64 n] w fun e w' => ∃ v, e = .returned v ∧ OwnD w' w.heap.size v 0 [] ∧ Below w.heap.size w w' := by
  obtain ⟨i0, hi0, hz0, hz1, hz2⟩ := info_parts id_info
  have h1 : ¬ ((n : Int) < 0) := by omega
  have h2 : IntKind.i64.wrap ((n : Int) - 0) = (n : Int) := by rw [IntKind.wrap_i64]; omega
  have h0 : IntKind.i64.wrap ((0 : Int) - 0) = 0 := by rw [IntKind.wrap_i64]; omega
  by_cases hn0 : n = 0
  · subst hn0
    have hO : Hid (OwnD w w.heap.size (.slice none 0 0) 0 []) := Lib.hid (World.ownsRow_nil _ _ _ _)
    go_enter Tryz.func133, Tryz.ntmps133
    go_wp2
    go_ret
    exact ⟨_, rfl, hO.out, Below.refl _ _⟩
  · have hzb : i0.bytes = 8 := hz2
    have hsz : i0.size = 1 := hz1
    have hold : (Builtin.firstCells i0.size 0 (.slice none 0 0)).run Tryz.prog w.drew = .ok ([] : List Value).toArray w.drew := run_firstCells_none w.drew i0.size 0 0 0
    have hrz : ∀ ty, (Builtin.append_ #[35, 3] ty #[.slice none 0 0, .int .i64 (n : Int)]).run Tryz.prog w =
        .ok (.slice (some ⟨w.heap.size, 0, none⟩) n (grownCap w n 0 81)) (w.drew.alloc (.cells (([] : List Value).toArray ++ Builtin.zeroCells (Value.int .i64 0).cells n ++ Builtin.zeroCells (Value.int .i64 0).cells (grownCap w n 0 81 - n)) 81)) := fun ty => by
      have h := Lib.run_append_grow_zeros w 35 3 ty 81 i0 _ .i64 .i64 Tryz.underlying35 Tryz.underlying3 hi0 hz0 none 0 0 [] hold n (by omega) (by omega) (by omega) (by omega) (by rw [hzb]; omega) (by rw [hzb]; exact growslice_fits (by omega) (by omega))
      rw [Nat.zero_add] at h
      exact h
    have hGn : n ≤ grownCap w n 0 81 := grownCap_ge w _ _ _
    have hGm := grownCap_le_maxLen w n 0 81 (by unfold maxLen; omega)
    obtain ⟨G, hG⟩ : ∃ G, G = grownCap w n 0 81 := ⟨_, rfl⟩
    rw [← hG] at hrz hGn hGm
    have hG63 : G ≤ 9223372036854775807 := by unfold maxLen at hGm; omega
    obtain ⟨ROW, hROW⟩ : ∃ ROW : Array Value, ROW = ([] : List Value).toArray ++ Builtin.zeroCells (Value.int .i64 0).cells n ++ Builtin.zeroCells (Value.int .i64 0).cells (G - n) := ⟨_, rfl⟩
    have hRs : ROW.size = G := by
      rw [hROW]
      simp [Builtin.zeroCells, Value.cells]
      omega
    rw [← hROW] at hrz
    have hO : Hid (OwnD (w.drew.alloc (.cells ROW 81)) w.heap.size (.slice (some ⟨w.heap.size, 0, none⟩) 0 G) 0 [] ∧ Below w.heap.size w (w.drew.alloc (.cells ROW 81))) := Lib.hid ⟨by
      refine ⟨rfl, Or.inr ⟨w.heap.size, G, ROW, rfl, Nat.le_refl _, ?_, Nat.zero_le _, hGm, by omega, by simp⟩⟩
      exact World.heap_alloc_at13 w.drew _, balloc (bdrew (Below.refl _ _)) _⟩
    have n0 : (0 : Int) < (n : Int) := by omega
    clear hROW hRs hG hGm hi0 hz0 hz1 hz2 hold hzb hsz
    go_enter Tryz.func133, Tryz.ntmps133
    go_wp2_with (at_builtin; refine Lib.wpList_append_run _ rfl _ _ _ _ rfl _ _ rfl rfl _ _ (hrz _) ?_)
    all_goals (go_ret; exact ⟨_, rfl, hO.out.1, hO.out.2⟩)
set_option maxHeartbeats 4000000 in
set_option maxRecDepth 100000 in
theorem concat_any (b : Nat) (a1 a2 : Option Addr) (n1 c1 n2 c2 cap : Nat) (z1 z2 : List Int) (w : World) (f1 : w.cell? ⟨b, 0, none⟩ = some (.slice a1 n1 c1)) (f2 : w.cell? ⟨b, 1, none⟩ = some (.slice a2 n2 c2)) (r1 : Row w a1 n1 z1) (r2 : Row w a2 n2 z2) (h1 : n1 ≤ 40000) (h2 : n2 ≤ 40000) :
    Calls Tryz.prog 73 #[.slice (some ⟨b, 0, none⟩) 2 cap] w fun e w' => ∃ v, e = .returned v ∧ OwnD w' w.heap.size v (n1 + n2) (z1 ++ z2) ∧ Below w.heap.size w w' := by
  have hbl := World.block_lt_of_cell? _ _ f1
  have HK : Hid (∀ W, Below w.heap.size w W → W.cell? ⟨b, 0, none⟩ = some (.slice a1 n1 c1) ∧ W.cell? ⟨b, 1, none⟩ = some (.slice a2 n2 c2) ∧ b < W.heap.size ∧ Row W a1 n1 z1 ∧ Row W a2 n2 z2) := Lib.hid (fun W q => ⟨cell_keep f1 q, cell_keep f2 q, Nat.lt_of_lt_of_le hbl q.size, row_keep r1 q, row_keep r2 q⟩)
  have HG := Lib.hid (grow0_any (n1 + n2) w (by omega))
  have s1 : IntKind.i64.wrap ((0 : Int) + (n1 : Int)) = ((n1 : Nat) : Int) := by rw [IntKind.wrap_i64]; omega
  have s2 : IntKind.i64.wrap ((n1 : Int) + (n2 : Int)) = ((n1 + n2 : Nat) : Int) := by rw [IntKind.wrap_i64]; omega
  have t1 : ¬ ((n1 : Int) < 0) := by omega
  have t2 : ¬ (((n1 + n2 : Nat) : Int) < 0) := by omega
  clear r1 r2
  go_enter Tryz.func73, Tryz.ntmps73
  go_wp2
  refine wp_loop_rounds 3 ?_
  rw [rounds_succ]
  go_wp2
  rw [rounds_succ]
  go_wp2
  rw [rounds_succ]
  go_wp2_with fail
  refine HG.out.mono ?_
  rintro e w1 ⟨v, rfl, ho, hb⟩
  obtain ⟨f1', f2', hbl', ro1, ro2⟩ := HK.out w1 hb
  have HO := Lib.hid ho
  have HB := Lib.hid hb
  have HR1 := Lib.hid ro1
  clear ho hb ro1 ro2 HG f1 f2
  go_wp2
  refine wp_loop_rounds 3 ?_
  rw [rounds_succ]
  go_wp2_with (at_builtin; refine wpList_cat9 rfl (.tmp 31) (.tmp 32) rfl w.heap.size 0 v [] rfl HO.out a1 n1 c1 z1 rfl HR1.out (by omega) (by omega) HB.out.size ?_)
  intro v2 w2 k1 k2
  have HB2 : Hid (Below w.heap.size w w2) := Lib.hid (own_below9 HO.out (Nat.le_refl _) HB.out k2)
  obtain ⟨f1'', f2'', hbl'', -, ro2⟩ := HK.out w2 HB2.out
  have HO2 := Lib.hid k1
  have HR2 := Lib.hid ro2
  clear k1 k2 ro2 HB HO HR1 f1' f2' hbl'
  go_wp2
  rw [rounds_succ]
  go_wp2_with (at_builtin; refine wpList_cat9 rfl (.tmp 31) (.tmp 32) rfl w.heap.size n1 v2 z1 rfl HO2.out a2 n2 c2 z2 rfl HR2.out (by omega) (by omega) HB2.out.size ?_)
  intro v3 w3 k1 k2
  have K : Hid (OwnD w3 w.heap.size v3 (n1 + n2) (z1 ++ z2) ∧ Below w.heap.size w w3) := Lib.hid ⟨k1, own_below9 HO2.out (Nat.le_refl _) HB2.out k2⟩
  clear k1 k2 HB2 HO2 HR2 HK
  go_wp2
  rw [rounds_succ]
  go_wp2
  go_ret
  exact ⟨v3, rfl, K.out.1, K.out.2⟩
theorem enters_bx : Enters 142 := fun _ _ => by kernel_rfl
theorem byx_any (a : Rc) (y : Int) (w : World) : Calls Tryz.prog 142 #[.agg (cRc a).toArray, .int .i64 y] w fun e w' => e = .returned (.int .i64 (cmpI a.id y)) ∧ Below w.heap.size w w' := by
  have HC := Lib.hid (cmp_any a.id y)
  have K0 : Hid ((w.alloc (.cells (cRc a).toArray 92)).cell? ⟨w.heap.size, 0, none⟩ = some (.int .i64 a.id)) := Lib.hid ((Blk.new w 92 (cRc a).toArray).cell 0)
  have HB : Hid (Below w.heap.size w (w.alloc (.cells (cRc a).toArray 92))) := Lib.hid (alloc_below _ _)
  obtain ⟨A, hA⟩ : ∃ A, A = (cRc a).toArray := ⟨_, rfl⟩
  rw [← hA] at K0 HB ⊢
  clear hA
  go_enter Tryz.func142, Tryz.ntmps142
  go_upto_region 1 with fail
  refine fin (fun W => W.cell? ⟨w.heap.size, 0, none⟩ = some (.int .i64 a.id) ∧ Below w.heap.size w W) ⟨K0.out, HB.out⟩ ?_
  rintro W ⟨c0, hb⟩
  have HB1 := Lib.hid hb
  clear hb HB K0
  go_wp2_with fail
  refine (HC.out _).mono ?_
  rintro e w1 ⟨rfl, rfl⟩
  go_wp2
  go_ret
  exact ⟨rfl, HB1.out⟩
theorem cmp_zero13 {a b : Int} : (cmpI a b = 0) ↔ a = b := by
  unfold cmpI
  by_cases h : a < b
  · rw [if_pos h]; constructor <;> intro q <;> omega
  · rw [if_neg h]
    by_cases h2 : b < a
    · rw [if_pos h2]; constructor <;> intro q <;> omega
    · rw [if_neg h2]; constructor <;> intro q <;> omega
set_option maxHeartbeats 8000000 in
set_option maxRecDepth 100000 in
theorem bsx_any (av : Option Addr) (n cap : Nat) (X : List Rc) (y : Int) (w : World) (row : RcRow w av n X) (hR : Rise X) (hn : n ≤ 100000) :
    Calls Tryz.prog 141 #[.slice av n cap, .int .i64 y, .func (.func 142) #[] #[]] w fun e w' => ∃ i : Int, e = .returned (.tuple #[.int .i64 i, .bool (decide (y ∈ X.map Rc.id))]) ∧ Below w.heap.size w w' := by
  have HLn := Lib.hid row.1
  have HRow := Lib.hid row
  have HRi := Lib.hid hR
  have hE := enters_bx
  unfold Enters at hE
  clear row hR
  go_enter Tryz.func141, Tryz.ntmps141
  go_wp2
  go_loopw [9, 10, 11] (fun v9 v10 _ wr => ∃ lo hi : Nat, v9 = .int .i64 lo ∧ v10 = .int .i64 hi ∧ lo ≤ hi ∧ hi ≤ n ∧ (∀ t x, X[t]? = some x → t < lo → x.id < y) ∧ (∀ t x, X[t]? = some x → hi ≤ t → y ≤ x.id) ∧ Below w.heap.size w wr) (fun v9 v10 _ _ => (ivl v10).toNat - (ivl v9).toNat)
  case atStart => exact ⟨0, n, rfl, rfl, by omega, by omega, fun t x _ h => by omega, fun t x h q => by have := (List.getElem?_eq_some_iff.1 h).1; have := HLn.out; omega, Below.refl _ _⟩
  case round =>
    obtain ⟨lo, hi, rfl, rfl, hlh, hin, h1, h2, hb⟩ := hrel
    have H1 := Lib.hid h1
    have H2 := Lib.hid h2
    have HB := Lib.hid hb
    clear h1 h2 hb
    by_cases hlt : lo < hi
    · obtain ⟨p, hp⟩ : ∃ p, p = (lo + hi) / 2 := ⟨_, rfl⟩
      have hpl : lo ≤ p := by omega
      have hph : p < hi := by omega
      have hpe : ((lo : Int) + (hi : Int)) / 2 = (p : Int) := by omega
      obtain ⟨b, off, x, rfl, hbl, hx, hr⟩ := HRow.out.at_ (i := p) (by omega)
      have HL : Hid (∀ W, Below w.heap.size w W → W.rangeAt b (off + p * 12) (cRc x)) := Lib.hid (fun W q => range_same hr (q.block b hbl))
      have HLx := Lib.hid (HL.out wr HB.out)
      have HCm : Hid (∀ W, Calls Tryz.prog 142 #[.agg (cRc x).toArray, .int .i64 y] W fun e w' => e = .returned (.int .i64 (cmpI x.id y)) ∧ Below W.heap.size W w') := Lib.hid (fun W => byx_any x y W)
      have HSz := Lib.hid (rc_size x)
      have HCn : Hid (cmpI x.id y < 0 ↔ x.id < y) := Lib.hid cmp_neg
      have HYes : Hid (x.id < y → ∀ t z, X[t]? = some z → t < p + 1 → z.id < y) := Lib.hid (fun hlt t z hz ht => by
        by_cases e : t = p
        · subst e
          rw [hx] at hz
          injection hz with hz
          rw [← hz]; exact hlt
        · have ht1 := (List.getElem?_eq_some_iff.1 hz).1
          have hp1 := (List.getElem?_eq_some_iff.1 hx).1
          have := List.pairwise_iff_getElem.1 HRi.out t p ht1 hp1 (by omega)
          rw [(List.getElem?_eq_some_iff.1 hz).2, (List.getElem?_eq_some_iff.1 hx).2] at this
          omega)
      have HNo : Hid (¬ x.id < y → ∀ t z, X[t]? = some z → p ≤ t → y ≤ z.id) := Lib.hid (fun hlt t z hz ht => by
        by_cases e : t = p
        · subst e
          rw [hx] at hz
          injection hz with hz
          rw [← hz]; omega
        · have ht1 := (List.getElem?_eq_some_iff.1 hz).1
          have hp1 := (List.getElem?_eq_some_iff.1 hx).1
          have := List.pairwise_iff_getElem.1 HRi.out p t hp1 ht1 (by omega)
          rw [(List.getElem?_eq_some_iff.1 hz).2, (List.getElem?_eq_some_iff.1 hx).2] at this
          omega)
      obtain ⟨XP, hXP⟩ : ∃ XP, XP = cRc x := ⟨_, rfl⟩
      rw [← hXP] at HCm HSz HL HLx
      obtain ⟨cc, hcc⟩ : ∃ cc, cc = cmpI x.id y := ⟨_, rfl⟩
      rw [← hcc] at HCm HCn
      obtain ⟨xi, hxi⟩ : ∃ xi, xi = x.id := ⟨_, rfl⟩
      rw [← hxi] at HCn HYes HNo
      have k0 : (lo : Int) < (hi : Int) := by omega
      have p0 : (0 : Int) ≤ (p : Int) := by omega
      have p1 : (p : Int) < (n : Int) := by omega
      clear hcc hxi hXP hx hr hp
      go_wp2_with (first
        | refine wpList_load_mid rfl 92 (.tmp 27) rfl b (off + p * 12) rfl XP _ HLx.out Tryz.underlying92 rfl HSz.out ?_)
      refine (HCm.out _).mono ?_
      rintro e w1 ⟨rfl, b1⟩
      replace HB := Lib.hid (bthen HB.out b1)
      clear b1 HCm HL HLx HSz
      by_cases hxy : xi < y
      · have hcc : cc < 0 := HCn.out.2 hxy
        have HN := Lib.hid (HYes.out hxy)
        clear HYes HNo HCn hxy
        go_wp2
        go_roundw
        case rel => exact ⟨p + 1, hi, by go_num, rfl, by omega, by omega, HN.out, H2.out, HB.out⟩
        case measure => simp [ivl] <;> omega
      · have hcc : ¬ cc < 0 := fun c => hxy (HCn.out.1 c)
        have HN := Lib.hid (HNo.out (by omega))
        clear HYes HNo HCn hxy
        go_wp2
        go_roundw
        case rel => exact ⟨lo, p, rfl, rfl, by omega, by omega, H1.out, HN.out, HB.out⟩
        case measure => simp [ivl] <;> omega
    · obtain rfl : lo = hi := by omega
      by_cases hln : lo < n
      · obtain ⟨b, off, x, rfl, hbl, hx, hr⟩ := HRow.out.at_ (i := lo) hln
        have HLx : Hid (wr.rangeAt b (off + lo * 12) (cRc x)) := Lib.hid (range_same hr (HB.out.block b hbl))
        have HCm : Hid (∀ W, Calls Tryz.prog 142 #[.agg (cRc x).toArray, .int .i64 y] W fun e w' => e = .returned (.int .i64 (cmpI x.id y)) ∧ Below W.heap.size W w') := Lib.hid (fun W => byx_any x y W)
        have HSz := Lib.hid (rc_size x)
        have HFd : Hid (decide (y ∈ X.map Rc.id) = decide (x.id = y)) := Lib.hid (by
          rw [decide_eq_decide, List.mem_map]
          constructor
          · rintro ⟨z, hz, rfl⟩
            obtain ⟨t, ht⟩ := List.getElem?_of_mem hz
            by_cases c : t < lo
            · have := H1.out t z ht c; omega
            · by_cases d : t = lo
              · subst d
                rw [hx] at ht
                injection ht with ht
                rw [ht]
              · have q := H2.out lo x hx (Nat.le_refl _)
                have ht1 := (List.getElem?_eq_some_iff.1 ht).1
                have hp1 := (List.getElem?_eq_some_iff.1 hx).1
                have := List.pairwise_iff_getElem.1 HRi.out lo t hp1 ht1 (by omega)
                rw [(List.getElem?_eq_some_iff.1 ht).2, (List.getElem?_eq_some_iff.1 hx).2] at this
                omega
          · intro e
            exact ⟨x, List.mem_of_getElem? hx, e⟩)
        have HCz : Hid (cmpI x.id y = 0 ↔ x.id = y) := Lib.hid cmp_zero13
        obtain ⟨XP, hXP⟩ : ∃ XP, XP = cRc x := ⟨_, rfl⟩
        rw [← hXP] at HCm HSz HLx
        obtain ⟨cc, hcc⟩ : ∃ cc, cc = cmpI x.id y := ⟨_, rfl⟩
        rw [← hcc] at HCm HCz
        obtain ⟨xi, hxi⟩ : ∃ xi, xi = x.id := ⟨_, rfl⟩
        rw [← hxi] at HCz HFd
        have k0 : ¬ (lo : Int) < (lo : Int) := by omega
        have p0 : (0 : Int) ≤ (lo : Int) := by omega
        have p1 : (lo : Int) < (n : Int) := by omega
        have HZ : Hid ((cc == 0) = decide (y ∈ X.map Rc.id)) := Lib.hid (by
          rw [HFd.out]
          by_cases c : cc = 0
          · rw [decide_eq_true (HCz.out.1 c), c]; rfl
          · rw [decide_eq_false (fun q => c (HCz.out.2 q))]; exact beq_eq_false_iff_ne.2 c)
        clear hcc hxi hXP hx hr H1 H2
        go_wp2_with (first
          | refine wpList_load_g (by rfl) 92 (.tmp 43) rfl b (off + lo * 12) rfl XP _ HLx.out Tryz.underlying92 rfl HSz.out ?_)
        refine (HCm.out _).mono ?_
        rintro e w1 ⟨rfl, b1⟩
        replace HB := Lib.hid (bthen HB.out b1)
        clear b1 HCm HLx HSz HCz
        go_wp2
        go_ret2
        exact ⟨(lo : Int), by rw [← HZ.out]; rfl, HB.out⟩
      · have HFd : Hid (decide (y ∈ X.map Rc.id) = false) := Lib.hid (decide_eq_false (by
          rw [List.mem_map]
          rintro ⟨z, hz, rfl⟩
          obtain ⟨t, ht⟩ := List.getElem?_of_mem hz
          have ht1 := (List.getElem?_eq_some_iff.1 ht).1
          have := H1.out t z ht (by have := HLn.out; omega)
          omega))
        have k0 : ¬ (lo : Int) < (lo : Int) := by omega
        have p1 : ¬ (lo : Int) < (n : Int) := by omega
        go_wp2
        go_ret2
        first
          | exact ⟨(lo : Int), by rw [HFd.out]; rfl, HB.out⟩
          | exact ⟨HFd.out.symm, HB.out⟩
          | exact ⟨HFd.out, HB.out⟩
          | exact ⟨by simpa using HFd.out, HB.out⟩
set_option maxHeartbeats 4000000 in
set_option maxRecDepth 100000 in
theorem open_any {w : World} {tb : Nat} {T : Int → Option Unit} (hm : MFi kI w tb T) (l N : Nat) (hl : l ≤ N) (hN : N ≤ 100000) (hT : (T (N : Nat)).isSome = false) :
    Calls Tryz.prog 143 #[.map (some tb), .int .i64 l] w fun e w' => ∃ n : Nat, e = .returned (.int .i64 n) ∧ l ≤ n ∧ n ≤ N ∧ (∀ m : Nat, l ≤ m → m < n → (T (m : Nat)).isSome = true) ∧ (T (n : Nat)).isSome = false ∧ Below w.heap.size w w' := by
  have HM := Lib.hid hm
  have HT := Lib.hid hT
  clear hm hT
  go_enter Tryz.func143, Tryz.ntmps143
  go_wp2
  go_loopw [1, 5, 6] (fun v1 _ _ wr => ∃ k : Nat, v1 = .int .i64 k ∧ l ≤ k ∧ k ≤ N ∧ (∀ m : Nat, l ≤ m → m < k → (T (m : Nat)).isSome = true) ∧ Below w.heap.size w wr) (fun v1 _ _ _ => N - (ivl v1).toNat)
  case atStart => exact ⟨l, rfl, by omega, hl, fun m h1 h2 => by omega, Below.refl _ _⟩
  case round =>
    obtain ⟨k, rfl, hk1, hk2, hk, hb⟩ := hrel
    have HK := Lib.hid hk
    have HB := Lib.hid hb
    clear hk hb
    have hrg : Rg (k : Int) := by unfold Rg; omega
    have hlk : (Instr.lookup 237 (.map (some tb)) (.int .i64 (k : Int)) true).run Tryz.prog wr = .ok (.tuple #[.agg #[], .bool (T (k : Nat)).isSome]) wr := (HM.out.keep HB.out).look hrg
    obtain ⟨bb, hbb⟩ : ∃ bb, bb = (T (k : Nat)).isSome := ⟨_, rfl⟩
    rw [← hbb] at hlk
    have HBb := Lib.hid hbb
    have hal : Below wr.heap.size wr (wr.alloc (.cells #[] 220)) := alloc_below _ _
    have HBa := Lib.hid (bthen HB.out hal)
    clear hbb hrg hal
    go_upto_region 2 with fail
    refine fin (fun W => Below w.heap.size w W) HBa.out ?_
    clear HBa hlk HB
    intro W hbW
    have HB := Lib.hid hbW
    clear hbW
    cases bb with
    | false =>
      go_wp2
      go_ret
      exact ⟨k, rfl, by omega, by omega, HK.out, HBb.out.symm, HB.out⟩
    | true =>
      have hkN : k ≠ N := fun e => by
        have h1 := HT.out
        rw [← e, ← HBb.out] at h1
        cases h1
      have HK2 : Hid (∀ m : Nat, l ≤ m → m < k + 1 → (T (m : Nat)).isSome = true) := Lib.hid (fun m h1 h2 => by
        by_cases c : m = k
        · rw [c]; exact HBb.out.symm
        · exact HK.out m h1 (by omega))
      go_wp2
      go_roundw
      case rel => exact ⟨k + 1, by go_num, by omega, by omega, HK2.out, HB.out⟩
      case measure => simp [ivl] <;> omega
theorem slM_isSome {S : SlR} (hS : SI S) {x : Int} : (slM S x).isSome = true ↔ x ∈ S.map Prod.fst := by
  unfold slM
  rw [← slot_has hS]
  by_cases c : 0 ≤ slotD S x
  · rw [if_pos c]; exact ⟨fun _ => c, fun _ => rfl⟩
  · rw [if_neg c]; exact ⟨fun h => (by cases h), fun h => absurd h c⟩
theorem below_drewN13 (w : World) (n : Nat) : Below w.heap.size w (w.drewN n) := ⟨rfl, rfl, rfl, Nat.le_refl _, fun _ _ => rfl⟩
theorem below_drew13 (w : World) : Below w.heap.size w w.drew := ⟨rfl, rfl, rfl, Nat.le_refl _, fun _ _ => rfl⟩
theorem del_start (S : SlR) (fi : List Int) : delM S [] fi = slM S := funext fun x => by
  unfold delM
  rw [if_neg (fun q => by cases q.1)]
theorem foldl_take {α β : Type} (f : β → α → β) (b : β) {l : List α} {j : Nat} {x : α} (h : l[j]? = some x) : (l.take (j + 1)).foldl f b = f ((l.take j).foldl f b) x := by
  rw [List.take_add_one, h, List.foldl_append]
  rfl
theorem gives_len (zs : List Int) : ∀ (S : SlR), (zs.foldl give1 S).length ≤ S.length + zs.length := by
  induction zs with
  | nil => exact fun _ => Nat.le_refl _
  | cons x zs ih =>
      intro S
      have h1 := ih (give1 S x)
      have h2 := give_len S x
      rw [List.length_cons]
      show (zs.foldl give1 (give1 S x)).length ≤ _
      omega
def TkS (K : SlR) (left : Lit → Bool) (T : Int → Option Unit) : Prop := ∀ n : Int, (T n).isSome = true ↔ ∃ x, (x, n) ∈ K ∧ left (.int .i64 x) = false
set_option maxHeartbeats 40000000 in
set_option maxRecDepth 100000 in
theorem settle_any {w : World} {g mb n cap nF cF : Nat} {a aF : Option Addr} {zs : List Int} {fr : List Rc} {S K : SlR} (hm : MF sK13 w mb (slM S))
    (HKp : Hid (∀ W, w.grownBy W (some mb) → Row W a n zs ∧ RcRow W aF nF fr ∧ W.cell? ⟨g, 2, none⟩ = some (.map (some mb)) ∧ g < W.heap.size))
    (hfr : Rise fr) (hK : SI K) (hdel : delM S zs (fr.map Rc.id) = slM K) (hzr : Rgs zs) (hfi : Rgs (fr.map Rc.id)) (hKr : ∀ p ∈ K, Rg p.1 ∧ 0 ≤ p.2 ∧ p.2 < 1000) (hKl : K.length ≤ 1000) (hn : n ≤ 1900) (hnF : nF ≤ 1900) :
    Calls Tryz.prog 78 #[.pointer (some ⟨g, 0, none⟩), .slice a n cap, .slice aF nF cF] w fun e w' => e = .returned (.tuple #[]) ∧ MF sK13 w' mb (slM ((fr.map Rc.id).foldl give1 K)) ∧ w.grownBy w' (some mb) := by
  have hmm := @run_makeMap Tryz.prog
  have HBs : Hid (∀ W y, w.grownBy W (some mb) → Calls Tryz.prog 141 #[.slice aF nF cF, .int .i64 y, .func (.func 142) #[] #[]] W fun e w' => ∃ i : Int, e = .returned (.tuple #[.int .i64 i, .bool (decide (y ∈ fr.map Rc.id))]) ∧ Below W.heap.size W w') := Lib.hid (fun W y q => bsx_any aF nF cF fr y W (HKp.out W q).2.1 hfr (by omega))
  have HZr := Lib.hid hzr
  have HFi := Lib.hid hfi
  have HKk := Lib.hid hK
  have HKr := Lib.hid hKr
  have HDel := Lib.hid hdel
  have HM0 : Hid (MF sK13 w mb (delM S (zs.take 0) (fr.map Rc.id))) := Lib.hid (by rw [List.take_zero, del_start]; exact hm)
  have HLz : Hid (zs.length = n) := Lib.hid (HKp.out w ⟨rfl, rfl, rfl, Nat.le_refl _, fun _ _ _ => rfl⟩).1.1
  have HLf : Hid (fr.length = nF) := Lib.hid (HKp.out w ⟨rfl, rfl, rfl, Nat.le_refl _, fun _ _ _ => rfl⟩).2.1.1
  have HTk : Hid (zs.take n = zs) := Lib.hid (List.take_of_length_le (by rw [HLz.out]; exact Nat.le_refl _))
  have HG0 : Hid (w.grownBy w (some mb)) := Lib.hid ⟨rfl, rfl, rfl, Nat.le_refl _, fun _ _ _ => rfl⟩
  have HDs : Hid (∀ W j y, MF sK13 W mb (delM S (zs.take j) (fr.map Rc.id)) → zs[j]? = some y → y ∉ fr.map Rc.id → Rg y → ∃ w', (∀ ty, (Builtin.delete_ #[106, 81] ty #[.map (some mb), .int .i64 y]).run Tryz.prog W = .ok (.tuple #[]) w') ∧ MF sK13 w' mb (delM S (zs.take (j + 1)) (fr.map Rc.id)) ∧ W.grownBy w' (some mb)) := Lib.hid (fun W j y h hj hy hr => by
    obtain ⟨w', h1, h2, h3⟩ := h.del hr
    refine ⟨w', h1, ?_, h3⟩
    rw [del_step hj, if_neg hy]
    exact h2)
  have HDn : Hid (∀ W j y, MF sK13 W mb (delM S (zs.take j) (fr.map Rc.id)) → zs[j]? = some y → y ∈ fr.map Rc.id → MF sK13 W mb (delM S (zs.take (j + 1)) (fr.map Rc.id))) := Lib.hid (fun W j y h hj hy => by rw [del_step hj, if_pos hy]; exact h)
  have HDz : Hid (∀ W, MF sK13 W mb (delM S (zs.take n) (fr.map Rc.id)) → MF sK13 W mb (slM K)) := Lib.hid (fun W h => by rw [HTk.out, HDel.out] at h; exact h)
  obtain ⟨dm, hdm⟩ : ∃ dm : Nat → Int → Option Int, dm = fun j => delM S (zs.take j) (fr.map Rc.id) := ⟨_, rfl⟩
  have edm : ∀ j, delM S (zs.take j) (fr.map Rc.id) = dm j := fun j => by rw [hdm]
  simp only [edm] at HM0 HDs HDn HDz
  obtain ⟨fi, hfi2⟩ : ∃ fi, fi = fr.map Rc.id := ⟨_, rfl⟩
  have HFe := Lib.hid hfi2
  rw [← hfi2] at HBs HFi HDs HDn ⊢
  clear hzr hfi hK hKr hdel hm hfr HDel HTk hdm edm hfi2
  go_enter Tryz.func78, Tryz.ntmps78
  go_wp2
  go_loopw [7, 8, 9, 20] (fun _ _ _ v20 wr => ∃ j : Nat, v20 = .int .i64 j ∧ j ≤ n ∧ MF sK13 wr mb (dm j) ∧ w.grownBy wr (some mb)) (fun _ _ _ v20 _ => n - (ivl v20).toNat)
  case atStart => exact ⟨0, rfl, by omega, HM0.out, HG0.out⟩
  case round =>
    clear HM0
    obtain ⟨j, rfl, hj, hm, hg⟩ := hrel
    have HM := Lib.hid hm
    have HG := Lib.hid hg
    clear hm hg
    by_cases hlt : j < n
    · have j0 : (0 : Int) ≤ (j : Int) := by omega
      have j1 : (j : Int) < (n : Int) := by omega
      obtain ⟨ib, ioff, y, rfl, hy, cy⟩ := row_at (HKp.out wr HG.out).1 hlt
      have hib := World.block_lt_of_cell? _ _ cy
      have HY := Lib.hid hy
      have HRy := Lib.hid (HZr.out y (List.mem_of_getElem? hy))
      clear hy
      go_wp2_with fail
      refine (HBs.out _ y HG.out).mono ?_
      rintro e w5 ⟨i5, rfl, b5⟩
      have HM5 := Lib.hid (HM.out.keep b5)
      have HG5 : Hid (w.grownBy w5 (some mb)) := Lib.hid (grown_trans HG.out (below_grown b5 _))
      obtain ⟨-, -, c2, hg2⟩ := HKp.out w5 HG5.out
      clear b5 cy hib HM HG
      obtain ⟨bb, hbb⟩ : ∃ bb, bb = decide (y ∈ fi) := ⟨_, rfl⟩
      rw [← hbb]
      have HBb := Lib.hid hbb
      clear hbb
      cases bb with
      | true =>
        have HN := Lib.hid (HDn.out w5 j y HM5.out HY.out (of_decide_eq_true HBb.out.symm))
        go_wp2
        go_roundw
        case rel => exact ⟨j + 1, by go_num, by omega, HN.out, HG5.out⟩
        case measure => simp [ivl] <;> omega
      | false =>
        obtain ⟨w6, r1, hm6, hg6⟩ := HDs.out w5 j y HM5.out HY.out (of_decide_eq_false HBb.out.symm) HRy.out
        have HN := Lib.hid (And.intro hm6 (grown_trans HG5.out hg6))
        clear hm6 hg6
        go_wp2_with (at_builtin; refine wpList_del9 rfl (.tmp 36) (.tmp 37) 106 81 rfl _ _ rfl rfl (r1 _) ?_)
        clear r1 c2 hg2 HM5
        go_wp2
        go_roundw
        case rel => exact ⟨j + 1, by go_num, by omega, HN.out.1, HN.out.2⟩
        case measure => simp [ivl] <;> omega
    · obtain rfl : j = n := by omega
      have j2 : ¬ (j : Int) < (j : Int) := by omega
      have HMK := Lib.hid (HDz.out _ HM.out)
      have hmlt := HMK.out.lt
      have hgw := HG.out.size
      clear HM HDz HDn HDs HBs HZr HLz
      -- what is taken
      go_upto_region 8 with fail
      have hal : Below wr.heap.size wr (wr.alloc (.map #[] 0)) := alloc_below _ _
      refine fin (fun W => MF sK13 W mb (slM K) ∧ MFi kI W wr.heap.size (fun _ => none) ∧ w.grownBy W (some mb)) ⟨HMK.out.keep hal, MFi.new kI wr, grown_trans HG.out (below_grown hal _)⟩ ?_
      obtain ⟨tb, htb⟩ : ∃ tb, tb = wr.heap.size := ⟨_, rfl⟩
      have htbm : tb ≠ mb := by omega
      have htw : w.heap.size ≤ tb := by omega
      rw [← htb]
      clear hal HMK HG hmlt hgw htb
      rintro W ⟨hm, ht, hg⟩
      obtain ⟨-, -, c2, hg2⟩ := HKp.out W hg
      obtain ⟨W1, left, cnt, hrg, hmr, hl1, hl2, hgr, hsz⟩ := hm.range13
      have HMR := Lib.hid hmr
      have HT1 : Hid (MFi kI W1 tb (fun _ => none)) := Lib.hid (ht.same (hgr.block _ ht.lt (by simp)))
      have HG1 : Hid (w.grownBy W1 (some mb)) := Lib.hid (grown_trans hg (hgr.but _))
      have HL := Lib.hid hl1
      have HTk0 : Hid (TkS K left (fun _ => none)) := Lib.hid (fun m => ⟨fun h => (by cases h), fun ⟨x, hx, hl⟩ => by
        have h1 : (slM K x).isSome = true := (slM_isSome HKk.out).2 (List.mem_map.2 ⟨_, hx, rfl⟩)
        rw [hl2 x (HKr.out _ hx).1, h1] at hl
        cases hl⟩)
      have htr : tb ≠ W.heap.size := by have := ht.lt; omega
      have hrw : w.heap.size ≤ W.heap.size := hg.size
      obtain ⟨r, hr⟩ : ∃ r, r = W.heap.size := ⟨_, rfl⟩
      rw [← hr] at hrg HMR htr hrw
      clear hm ht hg hmr hl1 hl2 hgr hsz hr
      go_wp2
      go_loopw [12] (fun _ wq => ∃ (left : Lit → Bool) (cnt : Nat) (T : Int → Option Unit), MRg sK13 wq mb r (slM K) left cnt ∧ (∀ x, left (.int .i64 x) = true → (slM K x).isSome = true ∧ Rg x) ∧ MFi kI wq tb T ∧ TkS K left T ∧ w.grownBy wq (some mb)) (fun _ wq => wq.rangeLeft mb r)
      case atStart => exact ⟨left, cnt, _, HMR.out, HL.out, HT1.out, HTk0.out, HG1.out⟩
      case round =>
        clear HMR HL HT1 HTk0 HG1 hrg c2 hg2 left cnt
        obtain ⟨left, cnt, T, hmr, hl1, ht, htk, hg⟩ := hrel
        have HMR := Lib.hid hmr
        have HL := Lib.hid hl1
        have HT := Lib.hid ht
        have HTK := Lib.hid htk
        have HG := Lib.hid hg
        have hrl := hmr.lt
        have hrm := hmr.ne
        have htl := ht.lt
        rcases hmr.next hl1 with ⟨h0, hnx⟩ | ⟨x, s, w', cnt', hs, hlx, hnx, hmr', hlt', hgr', hsz', hen⟩
        · have HT0 : Hid (∀ m : Int, (T m).isSome = usedD K m) := Lib.hid (fun m => by
            rw [Bool.eq_iff_iff, HTK.out m, used_iff, List.mem_map]
            constructor
            · rintro ⟨x, hx, _⟩; exact ⟨_, hx, rfl⟩
            · rintro ⟨⟨x, m'⟩, hx, rfl⟩; exact ⟨x, hx, h0 x⟩)
          have HM := Lib.hid hmr.owns
          obtain ⟨-, -, c2, hg2⟩ := HKp.out _ hg
          have HLI0 : Hid (LInv K ((fi.take 0).foldl give1 K) 0) := Lib.hid (LInv.start HKk.out)
          have HM0 : Hid (MF sK13 wr mb (slM ((fi.take 0).foldl give1 K))) := HM
          clear hmr hl1 ht htk hg h0 HMR HL HTK HM
          go_wp2
          go_loopw [13, 15, 16, 17, 55] (fun v13 _ _ _ v55 wq => ∃ (k l : Nat), v55 = .int .i64 k ∧ v13 = .int .i64 l ∧ k ≤ nF ∧ LInv K ((fi.take k).foldl give1 K) l ∧ MF sK13 wq mb (slM ((fi.take k).foldl give1 K)) ∧ MFi kI wq tb T ∧ w.grownBy wq (some mb)) (fun _ _ _ _ v55 _ => nF - (ivl v55).toNat)
          case atStart => exact ⟨0, 0, rfl, rfl, by omega, HLI0.out, HM0.out, HT.out, HG.out⟩
          case round =>
            clear HLI0 HM0 HT HG c2 hg2
            obtain ⟨k, l, rfl, rfl, hk, hli, hm, ht, hg⟩ := hrel
            have HLI := Lib.hid hli
            have HM := Lib.hid hm
            have HT := Lib.hid ht
            have HG := Lib.hid hg
            have htl := ht.lt
            by_cases hltk : k < nF
            · have k0 : (0 : Int) ≤ (k : Int) := by omega
              have k1 : (k : Int) < (nF : Int) := by omega
              obtain ⟨-, hRw, c2, hg2⟩ := HKp.out _ hg
              obtain ⟨b, off, x, rfl, hbl, hx, hr⟩ := hRw.at_ hltk
              have hfx : fi[k]? = some x.id := by rw [HFe.out, List.getElem?_map, hx]; rfl
              have HStp := Lib.hid (foldl_take give1 K hfx)
              have hrx : Rg x.id := HFi.out _ (List.mem_of_getElem? hfx)
              have hbd := hli.bound
              have hlen := gives_len (fi.take k) K
              have hlt2 : (fi.take k).length ≤ k := by rw [List.length_take]; omega
              have HKeys : Hid (∀ y, ((fun y => if y = x.id then some (0 : Int) else slM ((fi.take k).foldl give1 K) y) y).isSome = true → y ∈ x.id :: (((fi.take k).foldl give1 K).map Prod.fst)) := Lib.hid (fun y hy => by
                by_cases c : y = x.id
                · rw [c]; exact List.mem_cons_self
                · simp only [if_neg c] at hy
                  exact List.mem_cons_of_mem _ ((slM_isSome hli.si).1 hy))
              obtain ⟨Sk, hSk⟩ : ∃ Sk, Sk = (fi.take k).foldl give1 K := ⟨_, rfl⟩
              rw [← hSk] at HLI HM HStp hbd hlen HKeys
              have hlk : ∀ W, MF sK13 W mb (slM Sk) → (Instr.lookup 106 (.map (some mb)) (.int .i64 x.id) true).run Tryz.prog W = .ok (.tuple #[.int .i64 ((slM Sk x.id).getD 0), .bool (slM Sk x.id).isSome]) W := fun W h => h.look hrx
              have HLk := Lib.hid hlk
              have HL0 := Lib.hid hr
              have HSz := Lib.hid (rc_size x)
              have HRX : Hid ((Tryz.prog.info? 92).map (·.size) = some (cRc x).toArray.size) := Lib.hid (by rw [List.size_toArray]; exact rc_size x)
              have HRo := Lib.hid (rc_all x)
              have HCi : Hid (∀ W g, Blk W g 92 (cRc x).toArray → W.cell? ⟨g, 0, none⟩ = some (.int .i64 x.id)) := Lib.hid (fun W g q => q.cell 0)
              have HRl : Hid ((cRc x).length = 12) := Lib.hid rfl
              obtain ⟨XX, hXX⟩ : ∃ XX, XX = cRc x := ⟨_, rfl⟩
              rw [← hXX] at HL0 HSz HRX HRo HCi HRl
              obtain ⟨y, hy⟩ : ∃ y, y = x.id := ⟨_, rfl⟩
              rw [← hy] at HStp HLk HCi HKeys hrx hfx
              have HRy := Lib.hid hrx
              have hbs : Below wr.heap.size wr ((wr.alloc (.cells (cRc zRc).toArray 92)).setCells wr.heap.size 0 XX) := below_setCells XX (alloc_below _ _) (Nat.le_refl _)
              have HT15 : Hid ((wr.alloc (.cells (cRc zRc).toArray 92)).there wr.heap.size 0 XX.toArray.size) := Lib.hid (blk_there (Blk.new wr _ _) (by rw [List.size_toArray, HRl.out]; exact Nat.le_refl 12))
              have HE15 : Hid (Blk ((wr.alloc (.cells (cRc zRc).toArray 92)).setCells wr.heap.size 0 XX) wr.heap.size 92 XX.toArray ∧ Below wr.heap.size wr ((wr.alloc (.cells (cRc zRc).toArray 92)).setCells wr.heap.size 0 XX)) := Lib.hid ⟨blk_over (Blk.new wr _ _) (by rw [HRl.out]; rfl), hbs⟩
              clear hli hm ht hg hRw hx hr hfx hrx hlk hXX hy hSk hbs
              go_upto_region 16 with (first
                | refine wpList_load_mid rfl 92 (.tmp 57) rfl b (off + k * 12) rfl XX _ HL0.out Tryz.underlying92 rfl HSz.out ?_
                | refine wpList_store_mid rfl 92 (.tmp 15) (.tmp 58) rfl wr.heap.size 0 XX.toArray rfl rfl HT15.out HRX.out HRo.out ?_)
              refine fin (fun W => Blk W wr.heap.size 92 XX.toArray ∧ Below wr.heap.size wr W) HE15.out ?_
              obtain ⟨g15, hg15⟩ : ∃ g, g = wr.heap.size := ⟨_, rfl⟩
              have hmq := HM.out.lt
              have hwq := HG.out.size
              rw [← hg15] at hmq htl hwq ⊢
              rintro W ⟨k15, hbW⟩
              rw [hg15] at hbW
              have hc15 := HCi.out W g15 k15
              have hl15 := k15.lt
              have HMW := Lib.hid (HM.out.keep hbW)
              have HTW := Lib.hid (HT.out.keep hbW)
              have HGW : Hid (w.grownBy W (some mb)) := Lib.hid (grown_trans HG.out (below_grown hbW _))
              obtain ⟨-, -, c2', hg2'⟩ := HKp.out _ HGW.out
              have hlk := fun nq => HLk.out (W.drewN nq) (HMW.out.keep (below_drewN13 W nq))
              have K15 := Lib.hid k15
              have hsM : (slM Sk y).isSome = decide (0 ≤ slotD Sk y) := by
                unfold slM
                by_cases c : 0 ≤ slotD Sk y
                · rw [if_pos c, decide_eq_true c]; rfl
                · rw [if_neg c, decide_eq_false c]; rfl
              rw [hsM] at hlk
              obtain ⟨sd, hsd⟩ : ∃ sd, sd = (slM Sk y).getD 0 := ⟨_, rfl⟩
              rw [← hsd] at hlk
              obtain ⟨bb, hbb⟩ : ∃ bb, bb = decide (0 ≤ slotD Sk y) := ⟨_, rfl⟩
              rw [← hbb] at hlk
              have HBb := Lib.hid hbb
              clear HE15 HT15 HL0 k15 hbW HM HT HG c2 hg2 hg15 hbl hsM hsd hbb HLk
              go_wp2
              go_quiet (fail)
              have hbN := below_drewN13 W nq
              refine fin (fun V => Blk V g15 92 XX.toArray ∧ MF sK13 V mb (slM Sk) ∧ MFi kI V tb T ∧ w.grownBy V (some mb) ∧ w.heap.size ≤ g15) ⟨K15.out.keep hbN, HMW.out.keep hbN, HTW.out.keep hbN, grown_trans HGW.out (below_grown hbN _), hwq⟩ ?_
              clear hbN K15 HMW HTW HGW hlk hc15 hl15 c2' hg2' hmq htl hwq
              rintro V ⟨k15, hm, ht, hg, hgw⟩
              have K15 := Lib.hid k15
              have HM := Lib.hid hm
              have HT := Lib.hid ht
              have HG := Lib.hid hg
              have HGw := Lib.hid hgw
              clear k15 hm ht hg hgw
              cases bb with
              | true =>
                have HE := Lib.hid (give_stay (of_decide_eq_true HBb.out.symm))
                rw [HE.out] at HStp
                have HR : Hid (LInv K ((fi.take (k + 1)).foldl give1 K) l ∧ MF sK13 V mb (slM ((fi.take (k + 1)).foldl give1 K)) ∧ MFi kI V tb T ∧ w.grownBy V (some mb)) := Lib.hid ⟨HStp.out ▸ HLI.out, HStp.out ▸ HM.out, HT.out, HG.out⟩
                clear HLI HM HT HG K15 HStp HE HBb
                go_wp2
                go_roundw
                case rel => exact ⟨k + 1, l, by go_num, rfl, by omega, HR.out.1, HR.out.2.1, HR.out.2.2.1, HR.out.2.2.2⟩
                case measure => simp [ivl] <;> omega
              | false =>
                have HNo : Hid (¬ 0 ≤ slotD Sk y) := Lib.hid (of_decide_eq_false HBb.out.symm)
                have HOp := Lib.hid (open_any HT.out l (leastD Sk) hbd.1 (by omega) (by rw [HT0.out]; exact hbd.2.1))
                go_wp2_with fail
                refine HOp.out.mono ?_
                rintro e V2 ⟨q, rfl, hq1, hq2, hq3, hq4, b2⟩
                have hgv := HLI.out.give (Int.not_le.2 HNo.out) hq1 (fun m h1 h2 => by rw [← HT0.out]; exact hq3 m h1 h2) (by rw [← HT0.out]; exact hq4)
                have HGv : Hid (LInv K ((fi.take (k + 1)).foldl give1 K) (q + 1) ∧ slM ((fi.take (k + 1)).foldl give1 K) = upm (slM Sk) y (some (q : Int))) := Lib.hid ⟨HStp.out ▸ hgv.2, by
                  rw [HStp.out, hgv.1]
                  exact slM_give HLI.out.si (Int.not_le.2 HNo.out)⟩
                have hm2 := HM.out.keep b2
                have ht2 := HT.out.keep b2
                have k2 := K15.out.keep b2
                have hg2 := grown_trans HG.out (below_grown b2 _)
                have hrq : Rg (q : Int) := by unfold Rg; omega
                have hm2d : MF sK13 V2.drew mb (slM Sk) := hm2.keep (below_drew13 V2)
                obtain ⟨V3, hrun, hm3, hg3⟩ := hm2d.put HRy.out (q : Int) (y :: (Sk.map Prod.fst)) (fun z hz => by
                  unfold upm at hz
                  by_cases c : z = y
                  · rw [c]; exact List.mem_cons_self
                  · rw [if_neg c] at hz
                    exact List.mem_cons_of_mem _ ((slM_isSome HLI.out.si).1 hz)) (by rw [List.length_cons, List.length_map]; omega)
                have hrun' : (Instr.mapUpdate 106 (.map (some mb)) (.int .i64 y) (.int .i64 (q : Int))).run Tryz.prog V2.drew = .ok () V3 := hrun
                obtain ⟨-, -, c2, hgl2⟩ := HKp.out V2 hg2
                have hg3' : w.grownBy V3 (some mb) := grown_trans hg2 (grown_trans (b := V2.drew) (below_grown (below_drew13 V2) _) hg3)
                obtain ⟨-, -, c3, -⟩ := HKp.out V3 hg3'
                have hgmb : g15 ≠ mb := by
                  have h1 := k2.lt
                  intro e
                  obtain ⟨D, hD, _⟩ := hm2
                  obtain ⟨es, clock, hb, _⟩ := hD
                  have k3 := k2
                  unfold Blk at k3
                  rw [e, hb] at k3
                  cases k3
                have hk3 : V3.cell? ⟨g15, 0, none⟩ = some (.int .i64 y) := HCi.out V3 g15 (k2.same (hg3.block _ k2.lt (by intro e; injection e with e; exact hgmb e)))
                have ht3 : MFi kI V3 tb T := ht2.same (hg3.block _ ht2.lt (by intro e; injection e with e; exact htbm e))
                have SA := Lib.hid (And.intro c2 (HCi.out V2 g15 k2))
                have SE := Lib.hid (And.intro c3 hk3)
                have hl15 := k2.lt
                have HR : Hid (LInv K ((fi.take (k + 1)).foldl give1 K) (q + 1) ∧ MF sK13 V3 mb (slM ((fi.take (k + 1)).foldl give1 K)) ∧ MFi kI V3 tb T ∧ w.grownBy V3 (some mb)) := Lib.hid ⟨HGv.out.1, by rw [HGv.out.2]; exact hm3, ht3, hg3'⟩
                clear HOp hgv HGv hm2d hm2 ht2 k2 hg2 hrq hrun hm3 hg3 c2 hg3' c3 hgmb hk3 ht3 b2 hq3 hq4 HLI HM HT HG K15 HStp HNo HBb
                go_wp2
                refine wp_region_held_drew (S := fun w' => w'.cell? ⟨g, 2, none⟩ = some (.map (some mb)) ∧ w'.cell? ⟨g15, 0, none⟩ = some (.int .i64 y)) (by kernel_rfl) (SA.out) (fun hHeld => ?_)
                refine tk 0 hHeld ?_
                refine tk 1 hHeld ?_
                refine tk 2 hHeld ?_
                refine tk 3 hHeld ?_
                refine tk 4 hHeld ?_
                refine tk 5 hHeld ?_
                refine tk 6 hHeld ?_
                refine tk 7 hHeld ?_
                refine rd 8 (fun K hK => ?_)
                go_simp
                refine hK.out _ _ (SE.out) (fun hHeld => ?_)
                clear hK K
                refine wpAnyH_done (by kernel_rfl) ?_ _
                go_wp2
                go_roundw
                case rel => exact ⟨k + 1, q + 1, by go_num, by go_num, by omega, HR.out.1, HR.out.2.1, HR.out.2.2.1, HR.out.2.2.2⟩
                case measure => simp [ivl] <;> omega
            · obtain rfl : k = nF := by omega
              have k2 : ¬ (k : Int) < (k : Int) := by omega
              have HFin : Hid (MF sK13 wr mb (slM (fi.foldl give1 K)) ∧ w.grownBy wr (some mb)) := Lib.hid ⟨by
                have h1 := HM.out
                rw [List.take_of_length_le (by rw [HFe.out, List.length_map, HLf.out]; exact Nat.le_refl _)] at h1
                exact h1, HG.out⟩
              go_wp2
              go_end0
              exact ⟨rfl, HFin.out.1, HFin.out.2⟩
        · have hxr : Rg x := (hl1 x hlx).2
          have hmem : (x, s) ∈ K := (slM_some HKk.out).1 hs
          have hsr : Rg s := by
            have := (HKr.out _ hmem).2
            unfold Rg
            simp only at this
            omega
          have hT' : MFi kI w' tb T := ht.same (hgr'.block _ htl (by intro e; injection e with e; exact htr e))
          obtain ⟨w2, hrun, ht2, hg2⟩ := hT'.put hsr () (K.map Prod.snd) (fun y hy => by
            unfold upm at hy
            by_cases c : y = s
            · rw [c]; exact List.mem_map.2 ⟨_, hmem, rfl⟩
            · rw [if_neg c] at hy
              obtain ⟨z, hz, _⟩ := (htk y).1 hy
              exact List.mem_map.2 ⟨_, hz, rfl⟩) (by rw [List.length_map]; omega)
          have hrun' : (Instr.mapUpdate 237 (.map (some tb)) (.int .i64 s) (.agg #[])).run Tryz.prog w' = .ok () w2 := hrun
          have hmr2 : MRg sK13 w2 mb r (slM K) (fun z => left z && !z.sameKey (.int .i64 x)) cnt' := hmr'.kept hg2 (by intro e; injection e with e; exact htbm e.symm) (by intro e; injection e with e; exact htr e.symm)
          have HRel : Hid (MRg sK13 w2 mb r (slM K) (fun z => left z && !z.sameKey (.int .i64 x)) cnt' ∧ (∀ y, (left (.int .i64 y) && !(Lit.int .i64 y).sameKey (.int .i64 x)) = true → (slM K y).isSome = true ∧ Rg y) ∧ MFi kI w2 tb (upm T s (some ())) ∧ TkS K (fun z => left z && !z.sameKey (.int .i64 x)) (upm T s (some ())) ∧ w.grownBy w2 (some mb)) := Lib.hid ⟨hmr2, fun y hy => hl1 y (by rw [Bool.and_eq_true] at hy; exact hy.1), ht2, fun m => by
            unfold upm
            by_cases c : m = s
            · rw [if_pos c, c]
              exact ⟨fun _ => ⟨x, hmem, by show (left _ && !(Lit.int .i64 x).sameKey (.int .i64 x)) = false; rw [same_key13, decide_eq_true rfl]; simp⟩, fun _ => rfl⟩
            · rw [if_neg c, htk m]
              constructor
              · rintro ⟨z, hz, hl⟩
                exact ⟨z, hz, by show (left _ && _) = false; rw [hl]; rfl⟩
              · rintro ⟨z, hz, hl⟩
                refine ⟨z, hz, ?_⟩
                have hl' : (left (.int .i64 z) && !(Lit.int .i64 z).sameKey (.int .i64 x)) = false := hl
                by_cases d : z = x
                · subst d
                  have h1 := (slM_some HKk.out).2 hz
                  rw [hs] at h1
                  injection h1 with h1
                  exact absurd h1.symm c
                · rw [same_key13, decide_eq_false d] at hl'
                  simpa using hl', (hg.andThen hgr' (fun j e => by injection e with e; exact Or.inl (by omega))).andThen hg2 (fun j e => by injection e with e; exact Or.inl (by omega))⟩
          have HMs : Hid (w2.rangeLeft mb r < wr.rangeLeft mb r) := Lib.hid (by rw [hmr2.left_eq, hmr.left_eq]; exact hlt')
          clear hmr hl1 ht htk hg HMR HL HT HTK HG hmr' hgr' hsz' hxr hmem hsr hT' hrun ht2 hg2 hmr2 hs hlx hlt'
          go_wp2
          go_roundw
          case rel => exact ⟨_, cnt', _, HRel.out⟩
          case measure => exact HMs.out
structure LWE (FB : World → Nat → (Nat → Prop) → FD → Prop) (w W : World) (g gf mb : Nat) (F Ff : Nat → Prop) (vr : Value) (D : FD) (R : List Rc) (m : Int → Option Int) (since n : Int) : Prop where
  blk : Blk W g 111 #[.pointer (some ⟨gf, 0, none⟩), vr, .map (some mb), .int .i64 since, .int .i64 n]
  fl : FB W gf Ff D
  rc : OwnX 12 cRc 92 W 0 vr R
  mp : MF sK13 W mb m
  gF : ¬ Ff g
  mF : ¬ Ff mb
  mg : mb ≠ g
  rF : ∀ b, vr.ownBlock = some b → b ≠ g ∧ b ≠ mb ∧ ¬ Ff b
  fr : Fr w W F
  sub : ∀ b, footE g Ff vr mb b → F b ∨ w.heap.size ≤ b
section
variable {FB : World → Nat → (Nat → Prop) → FD → Prop} {w W W' : World} {g gf mb : Nat} {F Ff Ff' : Nat → Prop} {vr vr' : Value} {D D' : FD} {R R' : List Rc} {m m' : Int → Option Int} {since since' n n' : Int}
theorem LEx.lw (hC : FWE FB) {E : XS} {w0 : World} (h : LEx FB w0 g gf Ff vr mb E) (hF : ∀ b, F b ↔ footE g Ff vr mb b) (hb : Below w0.heap.size w0 w) : LWE FB w w g gf mb F Ff vr E.D E.R (slM E.S) E.since E.n := by
  have k := h.keep hC hb
  exact ⟨k.blk, k.fl, k.rc, k.mp, k.gF, k.mF, k.mg, k.rF, ⟨rfl, rfl, rfl, Nat.le_refl _, fun _ _ _ => rfl⟩, fun b c => Or.inl ((hF b).2 c)⟩
theorem LWE.keep (hC : FWE FB) (h : LWE FB w W g gf mb F Ff vr D R m since n) (hb : Below W.heap.size W W') : LWE FB w W' g gf mb F Ff vr D R m since n :=
  ⟨h.blk.keep hb, hC.keep h.fl hb, h.rc.keep hb, h.mp.keep hb, h.gF, h.mF, h.mg, h.rF, Fr.behind h.fr hb, h.sub⟩
theorem LWE.flow (h : LWE FB w W g gf mb F Ff vr D R m since n) (h1 : FB W' gf Ff' D') (h2 : Fr W W' Ff) (h3 : ∀ b, Ff' b → Ff b ∨ W.heap.size ≤ b) : LWE FB w W' g gf mb F Ff' vr D' R m since n :=
  ⟨h.blk.same (h2.2.2.2.2 g h.blk.lt h.gF), h1, h.rc.same (fun b e => h2.2.2.2.2 b (h.rc.lt b e).2 (h.rF b e).2.2), h.mp.same (h2.2.2.2.2 mb h.mp.lt h.mF), fun c => (h3 g c).elim h.gF (fun d => by have := h.blk.lt; omega), fun c => (h3 mb c).elim h.mF (fun d => by have := h.mp.lt; omega), h.mg,
    fun b e => ⟨(h.rF b e).1, (h.rF b e).2.1, fun c => (h3 b c).elim (h.rF b e).2.2 (fun d => by have := (h.rc.lt b e).2; omega)⟩, Fr.two h.fr h2 (fun x c => h.sub x (Or.inr (Or.inl c))), fun b c => by
      rcases c with c | c | c | c
      · exact h.sub b (Or.inl c)
      · rcases h3 b c with d | d
        · exact h.sub b (Or.inr (Or.inl d))
        · exact Or.inr (Nat.le_trans h.fr.2.2.2.1 d)
      · exact h.sub b (Or.inr (Or.inr (Or.inl c)))
      · exact h.sub b (Or.inr (Or.inr (Or.inr c)))⟩
theorem LWE.frg (h : LWE FB w W g gf mb F Ff vr D R m since n) {row : Option Nat} (k : W.grownBy W' row) (hr : ∀ b, row = some b → b = g ∨ b = mb) : Fr w W' F :=
  Fr.two h.fr (F' := fun b => row = some b) ⟨k.os, k.tape, k.output, k.size, fun b hb hn => k.block b hb (fun e => hn e.symm)⟩ (fun x c => by
    rcases hr x c with e | e
    · exact h.sub x (Or.inl e)
    · exact h.sub x (Or.inr (Or.inr (Or.inr e))))
theorem LWE.other (hC : FWE FB) (h : LWE FB w W g gf mb F Ff vr D R m since n) {i : Nat} {u : Value} : FB (W.setCell ⟨g, i, none⟩ u) gf Ff D ∧ OwnX 12 cRc 92 (W.setCell ⟨g, i, none⟩ u) 0 vr R ∧ MF sK13 (W.setCell ⟨g, i, none⟩ u) mb m := by
  have k := grown_set W g i u
  exact ⟨hC.keep_ _ _ _ _ _ h.fl (fun b c => k.block b (hC.inb _ _ _ _ h.fl b c) (by intro e; injection e with e; rw [e] at c; exact h.gF c)), h.rc.same (fun b e => k.block b (h.rc.lt b e).2 (by intro q; injection q with q; exact (h.rF b e).1 q)), h.mp.same (k.block _ h.mp.lt (by intro e; injection e with e; exact h.mg e))⟩
theorem LWE.setN (hC : FWE FB) (h : LWE FB w W g gf mb F Ff vr D R m since n) (n' : Int) : LWE FB w (W.setCell ⟨g, 4, none⟩ (.int .i64 n')) g gf mb F Ff vr D R m since n' :=
  ⟨h.blk.set_ 4 _, (h.other hC).1, (h.other hC).2.1, (h.other hC).2.2, h.gF, h.mF, h.mg, h.rF, h.frg (grown_set W g 4 _) (fun b e => by injection e with e; exact Or.inl e.symm), h.sub⟩
theorem LWE.setT (hC : FWE FB) (h : LWE FB w W g gf mb F Ff vr D R m since n) (t : Int) : LWE FB w (W.setCell ⟨g, 3, none⟩ (.int .i64 t)) g gf mb F Ff vr D R m t n :=
  ⟨h.blk.set_ 3 _, (h.other hC).1, (h.other hC).2.1, (h.other hC).2.2, h.gF, h.mF, h.mg, h.rF, h.frg (grown_set W g 3 _) (fun b e => by injection e with e; exact Or.inl e.symm), h.sub⟩
theorem LWE.setR (hC : FWE FB) (h : LWE FB w W g gf mb F Ff vr D R m since n) {base : Nat} {v' : Value} (ho : OwnX 12 cRc 92 W base v' R') (h1 : ∀ b, Ff b → b < base) (h2 : g < base) (h3 : mb < base) (h4 : w.heap.size ≤ base) : LWE FB w (W.setCell ⟨g, 1, none⟩ v') g gf mb F Ff v' D R' m since n :=
  ⟨h.blk.set_ 1 _, (h.other hC).1, (ho.same (fun b e => (grown_set W g 1 v').block b (ho.lt b e).2 (by intro q; injection q with q; have := (ho.lt b e).1; omega))).low (Nat.zero_le _), (h.other hC).2.2, h.gF, h.mF, h.mg, fun b e => by
      have h5 := (ho.lt b e).1
      exact ⟨by omega, by omega, fun c => by have := h1 b c; omega⟩, h.frg (grown_set W g 1 _) (fun b e => by injection e with e; exact Or.inl e.symm), fun b c => by
      rcases c with c | c | c | c
      · exact h.sub b (Or.inl c)
      · exact h.sub b (Or.inr (Or.inl c))
      · exact Or.inr (Nat.le_trans h4 (ho.lt b c).1)
      · exact h.sub b (Or.inr (Or.inr (Or.inr c)))⟩
theorem LWE.setM (hC : FWE FB) (h : LWE FB w W g gf mb F Ff vr D R m since n) (k : W.grownBy W' (some mb)) (hm : MF sK13 W' mb m') : LWE FB w W' g gf mb F Ff vr D R m' since n :=
  ⟨h.blk.same (k.block g h.blk.lt (by intro e; injection e with e; exact h.mg e.symm)), hC.keep_ _ _ _ _ _ h.fl (fun b c => k.block b (hC.inb _ _ _ _ h.fl b c) (by intro e; injection e with e; rw [e] at c; exact h.mF c)), h.rc.same (fun b e => k.block b (h.rc.lt b e).2 (by intro q; injection q with q; exact (h.rF b e).2.1 q)), hm, h.gF, h.mF, h.mg, h.rF, h.frg k (fun b e => by injection e with e; exact Or.inr e.symm), h.sub⟩
theorem LWE.done (h : LWE FB w W g gf mb F Ff vr D R m since n) {w0 : World} (hb : Below w0.heap.size w0 w) {E : XS} (e1 : E.D = D) (e2 : E.R = R) (e3 : slM E.S = m) (e4 : E.since = since) (e5 : (E.n : Int) = n) : ChB (LEB FB) w0 W g F E := by
  subst e1 e2 e3 e4 e5
  exact ⟨footE g Ff vr mb, ⟨gf, Ff, vr, mb, ⟨h.blk, h.fl, h.rc, h.mp, h.gF, h.mF, h.mg, h.rF⟩, fun _ => Iff.rfl⟩, Fr.after hb h.fr, fun b c => (h.sub b c).imp id (fun d => Nat.le_trans hb.size d)⟩
theorem LWE.reads (h : LWE FB w W g gf mb F Ff vr D R m since n) : W.cell? ⟨g, 0, none⟩ = some (.pointer (some ⟨gf, 0, none⟩)) ∧ W.cell? ⟨g, 1, none⟩ = some vr ∧ W.cell? ⟨g, 2, none⟩ = some (.map (some mb)) ∧ W.cell? ⟨g, 3, none⟩ = some (.int .i64 since) ∧ W.cell? ⟨g, 4, none⟩ = some (.int .i64 n) ∧ g < W.heap.size := ⟨h.blk.cell 0, h.blk.cell 1, h.blk.cell 2, h.blk.cell 3, h.blk.cell 4, h.blk.lt⟩
end
set_option maxHeartbeats 4000000 in
set_option maxRecDepth 100000 in
theorem stb19 (g n cap : Nat) (X : List Rc) (w : World) (hX : MR 12 cRc 92 w g X) (hn : X.length = n) (hbig : n ≤ 19) :
    Calls Tryz.prog 266 #[.slice (some ⟨g, 0, none⟩) n cap, .int .i64 n, .func (.func 222) #[] #[]] w fun e w' => e = .returned (.tuple #[]) ∧ ∃ Y, DR w 92 g w' Y ∧ SStep Rc.id X Y 0 n ∧ AscIn Rc.id Y 0 n := by
  have HI : Hid (Calls Tryz.prog 293 #[.slice (some ⟨g, 0, none⟩) n cap, .int .i64 0, .int .i64 n, .func (.func 222) #[] #[]] w fun e w' => e = .returned (.tuple #[]) ∧ ∃ Y, DR w 92 g w' Y ∧ SStep Rc.id X Y 0 n ∧ AscIn Rc.id Y 0 n) := Lib.hid (ins_any g n cap 0 n X w hX hn (by omega) (Nat.zero_le _) (Nat.le_refl _))
  have h1 : ¬ (20 : Int) ≤ (n : Int) := by omega
  have h2 : ¬ (20 : Int) < (n : Int) := by omega
  clear hX hn
  go_enter Tryz.func266, Tryz.ntmps266
  go_wp2
  refine wp_loop_rounds 1 ?_
  rw [rounds_succ]
  go_wp2_with fail
  refine HI.out.mono ?_
  rintro e w1 ⟨rfl, Y, hd, hs, ha⟩
  have HR := Lib.hid (And.intro hd (And.intro hs ha))
  clear hd hs ha
  go_wp2
  refine wp_loop_rounds 1 ?_
  rw [rounds_succ]
  go_wp2
  go_end0
  exact ⟨rfl, Y, HR.out⟩
set_option maxHeartbeats 4000000 in
set_option maxRecDepth 100000 in
theorem sort19 (g n cap : Nat) (X : List Rc) (w : World) (hX : MR 12 cRc 92 w g X) (hn : X.length = n) (hbig : n ≤ 19) :
    Calls Tryz.prog 221 #[.slice (some ⟨g, 0, none⟩) n cap, .func (.func 222) #[] #[]] w fun e w' => e = .returned (.tuple #[]) ∧ ∃ Y, DR w 92 g w' Y ∧ Y.length = n ∧ Fil Rc.id X Y ∧ Asc Rc.id Y := by
  have HS := Lib.hid (stb19 g n cap X w hX hn hbig)
  have HL := Lib.hid hn
  clear hX hn
  go_enter Tryz.func221, Tryz.ntmps221
  go_wp2_with fail
  refine HS.out.mono ?_
  rintro e w1 ⟨rfl, Y, hd, hs, ha⟩
  have HD := Lib.hid hd
  have HR := Lib.hid (And.intro (hs.len.trans HL.out) (And.intro hs.fil (AscIn.all (by rw [hs.len, HL.out]; exact ha))))
  clear hd hs ha
  go_wp2
  go_end0
  exact ⟨rfl, Y, HD.out, HR.out⟩
set_option maxHeartbeats 4000000 in
set_option maxRecDepth 100000 in
theorem ris19 (av : Option Addr) (n cap : Nat) (X : List Rc) (w : World) (row : RcRow w av n X) (hn : n ≤ 19) :
    Calls Tryz.prog 140 #[.slice av n cap] w fun e w' => ∃ a' m cap' F, e = .returned (.slice a' m cap') ∧ RcRow w' a' m F ∧ m ≤ cap' ∧ cap' ≤ maxLen ∧ m ≤ n ∧ Rise F ∧ (∀ k, look k F = look k X.reverse) ∧ Below w.heap.size w w' := by
  have HLn := Lib.hid row.1
  have HCl := Lib.hid (clone_any av n cap X w row (by omega))
  clear row
  go_enter Tryz.func140, Tryz.ntmps140
  go_wp2_with fail
  refine HCl.out.mono ?_
  rintro e w1 ⟨v, rfl, ho, hb⟩
  have HB := Lib.hid hb
  clear hb HCl
  rcases Nat.eq_zero_or_pos n with rfl | hpos
  · have hX : X = [] := List.eq_nil_of_length_eq_zero HLn.out
    subst hX
    obtain ⟨a, c, rfl, hc, hcm, hr⟩ := ho.row cRc_len
    have HR := Lib.hid (And.intro hr hcm)
    clear ho hr hcm
    rw [List.length_nil] at HR ⊢
    go_wp2_with fail
    refine (rev_none a c w1).mono ?_
    rintro e w2 ⟨rfl, rfl⟩
    go_wp2_with fail
    refine (sort_zero a c w1).mono ?_
    rintro e w2 ⟨rfl, rfl⟩
    go_wp2_with fail
    refine (comp_zero a c _ w1).mono ?_
    rintro e w2 ⟨rfl, rfl⟩
    go_wp2
    go_ret
    exact ⟨a, 0, c, [], rfl, HR.out.1, Nat.zero_le _, HR.out.2, Nat.le_refl _, List.Pairwise.nil, fun k => rfl, HB.out⟩
  · obtain ⟨g, c, rfl, hg, hc, hcm, hm⟩ := ho.mr (by rw [HLn.out]; exact hpos)
    rw [HLn.out] at hc ⊢
    have HRv := Lib.hid (rev_any g n c X w1 hm HLn.out (by omega))
    have HG := Lib.hid hg
    clear ho hm hg
    go_wp2_with fail
    refine HRv.out.mono ?_
    rintro e w2 ⟨rfl, hd⟩
    have HD := Lib.hid hd
    have HSo := Lib.hid (sort19 g n c X.reverse w2 hd.1 (by rw [List.length_reverse]; exact HLn.out) hn)
    clear hd HRv
    go_wp2_with fail
    refine HSo.out.mono ?_
    rintro e w3 ⟨rfl, Y, hd, hl, hf, ha⟩
    have HD2 := Lib.hid (HD.out.next hd)
    have HY := Lib.hid (And.intro hl (And.intro hf ha))
    have HCo := Lib.hid (comp_any g n c Y w3 hd.1 hl (by omega) hpos hc hcm)
    clear hd hl hf ha HSo HD
    go_wp2_with fail
    refine HCo.out.mono ?_
    rintro e w4 ⟨m, rfl, hl, hd⟩
    have HD3 := Lib.hid (HD2.out.next hd)
    have HM := Lib.hid hl
    clear hd hl HCo HD2
    go_wp2
    go_ret
    obtain ⟨y1, y2, y3⟩ := HY.out
    obtain ⟨r1, _, r3⟩ := comp_ok y3 n (by omega)
    have hlen := comp_len Y n (by omega)
    refine ⟨_, m, c, compT Y n, rfl, ?_, by rw [← HM.out]; omega, hcm, by rw [← HM.out]; omega, r1, fun k => ?_, ?_⟩
    · rw [← HM.out]
      exact HD3.out.1.row (by omega)
    · rw [r3, List.take_of_length_le (by omega)]
      exact look_fil y2 k
    · exact grown_below2 HB.out HD3.out.2 (fun b e => by injection e with e; rw [← e]; exact HG.out)
set_option maxHeartbeats 4000000 in
set_option maxRecDepth 100000 in
theorem insert19 (aL : Option Addr) (nL cL : Nat) (L : List Rc) (aX : Option Addr) (nX cX : Nat) (X : List Rc) (w : World) (rL : RcRow w aL nL L) (rX : RcRow w aX nX X) (hcL : nL ≤ cL) (hmL : cL ≤ maxLen) (hL : Rise L) (hn : nX + nL ≤ 2000) (hx : nX ≤ 19) :
    Calls Tryz.prog 76 #[.slice aL nL cL, .slice aX nX cX] w fun e w' => ∃ v R, e = .returned v ∧ InsAns w w' nX nL v L X R ∧ Below w.heap.size w w' := by
  have HRi := Lib.hid (ris19 aX nX cX X w rX (by omega))
  have HR := Lib.hid rL
  have HL := Lib.hid hL
  clear rX rL hL
  go_enter Tryz.func76, Tryz.ntmps76
  go_wp2_with fail
  refine HRi.out.mono ?_
  rintro e w1 ⟨a1, m, c1, F, rfl, hr, hm, hcm, hmn, hrf, hlk, hb⟩
  have HB := Lib.hid hb
  have HLk := Lib.hid hlk
  have HMg := Lib.hid (mrg_any a1 m c1 F aL nL cL L w1 hr (HR.out.keep hb) hm hcm hcL hmL hrf HL.out (by omega))
  clear hr hm hcm hrf hlk hb HRi
  go_wp2_with fail
  refine HMg.out.mono ?_
  rintro e w2 ⟨v, R, rfl, ho, hl, hr, hk, hb⟩
  have HA : Hid (InsAns w w2 nX nL v L X R ∧ Below w.heap.size w w2) := Lib.hid ⟨⟨ho.low HB.out.size, by omega, hr, fun k => by rw [hk k, HLk.out k]⟩, bthen HB.out hb⟩
  clear ho hl hr hk hb HMg
  go_wp2
  go_ret
  exact ⟨v, R, rfl, HA.out⟩
end Go.Proofs.YthhfcedhbfandaaGreat
