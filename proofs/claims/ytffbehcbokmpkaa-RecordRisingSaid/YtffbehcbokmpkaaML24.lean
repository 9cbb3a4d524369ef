/-
  2 texts in one file, each with its own heading.
-/
import Derived.Test.YtffbehcbokmpkaaML23
import Derived.Test.YtffbehcbokmpkaaML03
/-
  The live question of the law of layer 12: its closed data, its statement that draws its order.
-/
namespace Go.Proofs.Ytffbehcbokmpkaa
open Go.RowKit

def M0a : Nat → Int := fun k => if k = 0 then 65536 else if k = 5 then 65536 else if k = 10 then 65536 else 0
def M5a : Nat → Int := fun k => if k = 0 then 65536 else if k = 3 then 5 else if k = 5 then 65536 else if k = 10 then 65536 else 0
def P0a : PT := (7, M0a, 4, (fun _ => 0), 2, 3, false, 0)
def R9a : Rc := ⟨9, 4, 2, 3, false, 1, 5, 0, 0, 5, 0, 0⟩
theorem al_of : ovR 9 M5a P0a true = R9a ∧ obR M5a P0a true = true ∧ oeR M5a P0a true = 0 := by
  refine ⟨(eqRc_iff _ _).1 (by decide +kernel), by decide +kernel, by decide +kernel⟩
theorem al_state : lS M5a true = ([.int .i64 65536, .int .i64 0, .int .i64 0, .int .i64 5, .int .i64 0, .int .i64 65536, .int .i64 0, .int .i64 0, .int .i64 0, .int .i64 0, .int .i64 65536, .int .i64 0, .bool true] : List Value) := by kernel_rfl
def R4a : Rc := ⟨4, 0, 0, 0, false, 0, 0, 0, 0, 0, 0, 0⟩
def R12a : Rc := ⟨12, 0, 0, 0, false, 0, 0, 0, 0, 0, 0, 0⟩
def R41a : Rc := ⟨4, 1, 0, 0, false, 0, 0, 0, 0, 0, 0, 0⟩
def R5a : Rc := ⟨5, 0, 0, 0, false, 0, 0, 0, 0, 0, 0, 0⟩
theorem al_ins {R : List Rc} (h : Rise R) (hk : ∀ k, look k R = (look k [R9a, R41a].reverse).or (look k [R4a, R12a])) : R = [R41a, R9a, R12a] := by
  refine rise_ext h ?_ fun k => ?_
  · unfold Rise
    refine List.pairwise_cons.2 ⟨fun x hx => ?_, List.pairwise_cons.2 ⟨fun x hx => ?_, List.pairwise_singleton _ _⟩⟩
    · rcases List.mem_cons.1 hx with rfl | hx
      · decide
      · rw [List.mem_singleton.1 hx]; decide
    · rw [List.mem_singleton.1 hx]; decide
  · rw [hk k, show [R9a, R41a].reverse = [R41a, R9a] from rfl]
    rw [look_cons, look_cons, look_cons, look_cons, look_cons, look_cons, look_cons]
    show (if (4 : Int) = k then some R41a else if (9 : Int) = k then some R9a else look k []).or (if (4 : Int) = k then some R4a else if (12 : Int) = k then some R12a else look k []) = (if (4 : Int) = k then some R41a else if (9 : Int) = k then some R9a else if (12 : Int) = k then some R12a else look k [])
    by_cases h1 : (4 : Int) = k
    · rw [if_pos h1, if_pos h1, if_pos h1]; rfl
    · rw [if_neg h1, if_neg h1, if_neg h1]
      by_cases h2 : (9 : Int) = k
      · rw [if_pos h2, if_pos h2]; rfl
      · rw [if_neg h2, if_neg h2]
        rfl
theorem al_rem : remL [R41a, R9a, R12a] [12, 9] = [R41a] := by
  unfold remL
  rfl
theorem al_min : minK [R9a, R5a] 1 = R5a := mink_less (X := [R9a, R5a]) (k := 0) (x := R5a) rfl (by decide)
set_option maxHeartbeats 8000000 in
set_option maxRecDepth 100000 in
theorem al_r2 {u0 u2 u3 u4 u5 u6 u7 u8 u9 u10 u11 u12 u13 u14 u15 u16 u17 u18 u19 u20 u21 u22 u23 u24 u25 u26 u27 u28 u29 u30 u31 u32 u33 u34 u35 u36 u37 u38 u39 u40 u41 u42 u43 u44 u45 u46 u47 u48 u49 u50 u51 u52 u53 u54 u55 u56 u57 u58 u59 u60 u61 u62 u63 u64 u65 u66 u67 u68 u69 u70 u71 u72 u73 u74 u75 u76 u77 u78 u79 u80 u81 u82 u83 u84 u85 u86 u87 u88 u89 u90 : Value} {Q : Exit → Go.Act → World → Prop} {g1 : Nat} {XP XR : List Value} {w : World}
    (hQ : ∀ c a d v w, Q (.panic c) (a.put d v) w → Q (.panic c) a w)
    (hL : XR.length = 12) (hO : XR.toArray.all (·.oneCell') = true) (hP : (Try.prog.info? 32).map (·.size) = some XP.length)
    (hS : ∀ W, Below w.heap.size w W → W.rangeAt g1 0 XP)
    (hMv : ∀ W, Calls Try.prog 24 #[.agg #[.int .i64 5, .int .i64 0, .int .i64 0]] W fun e w' => e = .returned (.agg #[.int .i64 65536, .int .i64 0, .int .i64 0, .int .i64 5, .int .i64 0, .int .i64 65536, .int .i64 0, .int .i64 0, .int .i64 0, .int .i64 0, .int .i64 65536, .int .i64 0]) ∧ Below W.heap.size W w')
    (hOf : ∀ W, Calls Try.prog 6 #[.int .i64 9, .agg XP.toArray, .agg #[.int .i64 65536, .int .i64 0, .int .i64 0, .int .i64 5, .int .i64 0, .int .i64 65536, .int .i64 0, .int .i64 0, .int .i64 0, .int .i64 0, .int .i64 65536, .int .i64 0, .bool true]] W fun e w' => e = .returned (.tuple #[.agg XR.toArray, .bool true, .int .i64 0]) ∧ Below W.heap.size W w')
    (hk : ∀ W' a2, Blk W' a2 36 XR.toArray → w.heap.size ≤ a2 → Below w.heap.size w W' → Q .normal { tmps := #[u0, .pointer (some ⟨g1, 0, none⟩), .pointer (some ⟨a2, 0, none⟩), .bool true, .int .i64 0, u5, u6, u7, u8, u9, u10, .tuple #[.agg XR.toArray, .bool true, .int .i64 0], .agg XP.toArray, .agg #[.int .i64 5, .int .i64 0, .int .i64 0], .agg #[.int .i64 65536, .int .i64 0, .int .i64 0, .int .i64 5, .int .i64 0, .int .i64 65536, .int .i64 0, .int .i64 0, .int .i64 0, .int .i64 0, .int .i64 65536, .int .i64 0], .agg #[.int .i64 65536, .int .i64 0, .int .i64 0, .int .i64 5, .int .i64 0, .int .i64 65536, .int .i64 0, .int .i64 0, .int .i64 0, .int .i64 0, .int .i64 65536, .int .i64 0, .bool true], .tuple #[.agg XR.toArray, .bool true, .int .i64 0], .agg XR.toArray, .bool true, .int .i64 0, u20, u21, u22, u23, u24, u25, u26, u27, u28, u29, u30, u31, u32, u33, u34, u35, u36, u37, u38, u39, u40, u41, u42, u43, u44, u45, u46, u47, u48, u49, u50, u51, u52, u53, u54, u55, u56, u57, u58, u59, u60, u61, u62, u63, u64, u65, u66, u67, u68, u69, u70, u71, u72, u73, u74, u75, u76, u77, u78, u79, u80, u81, u82, u83, u84, u85, u86, u87, u88, u89, u90], defers := [] } W') :
    (Code.region 2 #[{ dst := some 12, op := Op.load 32 (Operand.tmp 1), type := 32, pos := "law.go:18", after := #[], guard := none }, { dst := some 13, op := Op.build 28 #[(0, Operand.const (Value.int IntKind.i64 5)), (1, Operand.const (Value.int IntKind.i64 0)), (2, Operand.const (Value.int IntKind.i64 0))], type := 28, pos := "law.go:18", after := #[], guard := none }, { dst := some 14, op := Op.call { callee := Callee.value (Operand.func 24), args := #[Operand.tmp 13], argTypes := #[28] }, type := 26, pos := "law.go:18", after := #[{ on := 1, ground := Ground.data }], guard := none }, { dst := some 15, op := Op.build 34 #[(0, Operand.tmp 14), (1, Operand.const (Value.bool true))], type := 34, pos := "law.go:18", after := #[{ on := 2, ground := Ground.data }], guard := none }, { dst := some 16, op := Op.call { callee := Callee.value (Operand.func 6), args := #[Operand.const (Value.int IntKind.i64 9), Operand.tmp 12, Operand.tmp 15], argTypes := #[22, 32, 34] }, type := 38, pos := "law.go:18", after := #[{ on := 0, ground := Ground.data }, { on := 3, ground := Ground.data }, { on := 2, ground := Ground.chain }], guard := none }, { dst := some 11, op := Op.move (Operand.tmp 16), type := 38, pos := "law.go:18", after := #[{ on := 4, ground := Ground.data }], guard := none }, { dst := some 17, op := Op.extract (Operand.tmp 11) 0, type := 36, pos := "law.go:18", after := #[{ on := 5, ground := Ground.data }], guard := none }, { dst := some 18, op := Op.extract (Operand.tmp 11) 1, type := 4, pos := "law.go:18", after := #[{ on := 5, ground := Ground.data }, { on := 10, ground := Ground.gcOnly Departure.lateStores }], guard := none }, { dst := some 19, op := Op.extract (Operand.tmp 11) 2, type := 37, pos := "law.go:18", after := #[{ on := 5, ground := Ground.data }, { on := 11, ground := Ground.gcOnly Departure.lateStores }], guard := none }, { dst := some 2, op := Op.alloc 36, type := 0, pos := "law.go:18", after := #[], guard := none }, { dst := none, op := Op.store 36 (Operand.tmp 2) (Operand.tmp 17), type := 0, pos := "law.go:18", after := #[{ on := 9, ground := Ground.data }, { on := 6, ground := Ground.data }, { on := 4, ground := Ground.chain }, { on := 0, ground := Ground.phase }, { on := 1, ground := Ground.phase }, { on := 2, ground := Ground.phase }, { on := 3, ground := Ground.phase }, { on := 4, ground := Ground.phase }, { on := 5, ground := Ground.phase }, { on := 6, ground := Ground.phase }, { on := 7, ground := Ground.textOnly Departure.lateStores }, { on := 8, ground := Ground.textOnly Departure.lateStores }, { on := 9, ground := Ground.phase }], guard := none }, { dst := some 3, op := Op.assign (Operand.tmp 18), type := 4, pos := "law.go:18", after := #[{ on := 7, ground := Ground.data }, { on := 10, ground := Ground.chain }, { on := 0, ground := Ground.phase }, { on := 1, ground := Ground.phase }, { on := 2, ground := Ground.phase }, { on := 3, ground := Ground.phase }, { on := 4, ground := Ground.phase }, { on := 5, ground := Ground.phase }, { on := 6, ground := Ground.phase }, { on := 7, ground := Ground.phase }, { on := 8, ground := Ground.textOnly Departure.lateStores }, { on := 9, ground := Ground.phase }, { on := 10, ground := Ground.phase }], guard := none }, { dst := some 4, op := Op.assign (Operand.tmp 19), type := 37, pos := "law.go:18", after := #[{ on := 8, ground := Ground.data }, { on := 11, ground := Ground.chain }, { on := 0, ground := Ground.phase }, { on := 1, ground := Ground.phase }, { on := 2, ground := Ground.phase }, { on := 3, ground := Ground.phase }, { on := 4, ground := Ground.phase }, { on := 5, ground := Ground.phase }, { on := 6, ground := Ground.phase }, { on := 7, ground := Ground.phase }, { on := 8, ground := Ground.phase }, { on := 9, ground := Ground.phase }, { on := 10, ground := Ground.phase }, { on := 11, ground := Ground.phase }], guard := none }] true).wp Try.prog Q { tmps := #[u0, .pointer (some ⟨g1, 0, none⟩), u2, u3, u4, u5, u6, u7, u8, u9, u10, u11, u12, u13, u14, u15, u16, u17, u18, u19, u20, u21, u22, u23, u24, u25, u26, u27, u28, u29, u30, u31, u32, u33, u34, u35, u36, u37, u38, u39, u40, u41, u42, u43, u44, u45, u46, u47, u48, u49, u50, u51, u52, u53, u54, u55, u56, u57, u58, u59, u60, u61, u62, u63, u64, u65, u66, u67, u68, u69, u70, u71, u72, u73, u74, u75, u76, u77, u78, u79, u80, u81, u82, u83, u84, u85, u86, u87, u88, u89, u90], defers := [] } w := by
  have HK := Lib.hid hk
  have HS := Lib.hid hS
  have HMv := Lib.hid hMv
  have HOf := Lib.hid hOf
  have HP := Lib.hid hP
  have HL := Lib.hid hL
  have HO := Lib.hid hO
  have HSz' : Hid ((Try.prog.info? 36).map (·.size) = some XR.toArray.size) := Lib.hid (by show _ = some XR.length; rw [hL]; kernel_rfl)
  clear hk hS hMv hOf hP hL hO
  refine wp_region_held_drew (S := fun w' => w'.rangeAt g1 0 XP) (by kernel_rfl) (HS.out _ (bdrew (Below.refl _ _))) (fun hHeld => ?_)
  refine wpAnyH_take (i := 0) (v := _) rfl (by kernel_rfl) (by kernel_rfl) (by kernel_rfl) (fun c a w h => hQ c a _ _ w h) (yieldsIf_load_mid (by rfl) _ _ rfl _ _ rfl _ _ (fun _ h => h) Try.underlying32 rfl HP.out) hHeld ?_
  simp only [Act.put, List.getElem_toArray, List.getElem_cons_zero, List.setIfInBounds_toArray, List.set_cons_zero, List.set_cons_succ]
  refine tk 1 hHeld ?_ (hQ := fun c a w h => hQ c a _ _ w h)
  refine fin (fun W => Below w.heap.size w W) (bdrew (Below.refl _ _)) ?_
  clear hHeld
  rintro y0 hb0
  have HB0 := Lib.hid hb0
  clear hb0
  have hHeld := HS.out _ HB0.out
  refine wpAnyH_ready (rs := [2, 9]) (by kernel_rfl) (by simp) ?_
  refine AllReadyH.cons rfl (fun K hK => ?_) (AllReadyH.cons rfl (fun K hK => ?_) AllReadyH.nil)
  · skip
    go_simp
    go_at_call 24
    refine (HMv.out _).mono ?_
    rintro e x1 ⟨rfl, b1⟩
    go_wp2_with fail
    refine hK.out _ _ (HS.out _ (bthen HB0.out b1)) (fun hHeld => ?_)
    clear hK K
    replace HB0 := Lib.hid (bthen HB0.out b1)
    clear b1
    refine tk 3 hHeld ?_ (hQ := fun c a w h => hQ c a _ _ w h)
    refine wpAnyH_ready (rs := [4, 9]) (by kernel_rfl) (by simp) ?_
    refine AllReadyH.cons rfl (fun K hK => ?_) (AllReadyH.cons rfl (fun K hK => ?_) AllReadyH.nil)
    · skip
      go_simp
      go_at_call 6
      refine (HOf.out _).mono ?_
      rintro e x2 ⟨rfl, b1⟩
      go_wp2_with fail
      refine hK.out _ _ (HS.out _ (bthen HB0.out b1)) (fun hHeld => ?_)
      clear hK K
      replace HB0 := Lib.hid (bthen HB0.out b1)
      clear b1
      refine tk 5 hHeld ?_ (hQ := fun c a w h => hQ c a _ _ w h)
      refine tk 6 hHeld ?_ (hQ := fun c a w h => hQ c a _ _ w h)
      refine tk 7 hHeld ?_ (hQ := fun c a w h => hQ c a _ _ w h)
      refine tk 8 hHeld ?_ (hQ := fun c a w h => hQ c a _ _ w h)
      refine rd 9 (fun K hK => ?_)
      go_simp
      have ha : w.heap.size ≤ x2.heap.size := HB0.out.size
      refine hK.out _ _ (HS.out _ (balloc HB0.out _)) (fun hHeld => ?_)
      clear hK K hHeld
      refine fin (fun W => Blk W x2.heap.size 36 (cRc zRc).toArray ∧ Below w.heap.size w W) ⟨Blk.new _ _ _, balloc HB0.out _⟩ ?_
      clear HB0
      obtain ⟨a2, hgen⟩ : ∃ n, n = x2.heap.size := ⟨_, rfl⟩
      rw [← hgen] at ha ⊢
      clear hgen
      rintro y3 ⟨k2, hb0⟩
      have K2 := Lib.hid k2
      have HB0 := Lib.hid hb0
      clear k2 hb0
      have hHeld := HS.out _ HB0.out
      refine rd 10 (fun K hK => ?_)
      rw [if_pos (by rfl)]
      refine wp_store_mid 36 (.tmp 2) (.tmp 17) rfl a2 0 XR.toArray rfl rfl (blk_there K2.out (by show 0 + XR.length ≤ 12; rw [HL.out]; exact Nat.le_refl 12)) HSz'.out HO.out ?_
      have q := blk_setCells XR (o := 0) K2.out (by rw [HL.out]; exact Nat.le_refl 12)
      rw [splice_all (by rw [HL.out]; rfl)] at q
      have qb := below_setCells (o := 0) XR HB0.out ha
      refine hK.out _ _ (HS.out _ qb) (fun hHeld => ?_)
      clear hK K
      refine tk 11 hHeld ?_ (hQ := fun c a w h => hQ c a _ _ w h)
      refine tk 12 hHeld ?_ (hQ := fun c a w h => hQ c a _ _ w h)
      refine wpAnyH_done (by kernel_rfl) ?_ _
      clear hHeld
      exact HK.out _ a2 q ha qb
    · skip
      go_simp
      have ha : w.heap.size ≤ x1.heap.size := HB0.out.size
      refine hK.out _ _ (HS.out _ (balloc HB0.out _)) (fun hHeld => ?_)
      clear hK K hHeld
      refine fin (fun W => Blk W x1.heap.size 36 (cRc zRc).toArray ∧ Below w.heap.size w W) ⟨Blk.new _ _ _, balloc HB0.out _⟩ ?_
      clear HB0
      obtain ⟨a2, hgen⟩ : ∃ n, n = x1.heap.size := ⟨_, rfl⟩
      rw [← hgen] at ha ⊢
      clear hgen
      rintro y2 ⟨k2, hb0⟩
      have K2 := Lib.hid k2
      have HB0 := Lib.hid hb0
      clear k2 hb0
      have hHeld := HS.out _ HB0.out
      refine rd 4 (fun K hK => ?_)
      go_simp
      go_at_call 6
      refine (HOf.out _).mono ?_
      rintro e x2 ⟨rfl, b1⟩
      go_wp2_with fail
      refine hK.out _ _ (HS.out _ (bthen HB0.out b1)) (fun hHeld => ?_)
      clear hK K
      replace HB0 := Lib.hid (bthen HB0.out b1)
      replace K2 := Lib.hid (K2.out.keep b1)
      clear b1
      refine tk 5 hHeld ?_ (hQ := fun c a w h => hQ c a _ _ w h)
      refine tk 6 hHeld ?_ (hQ := fun c a w h => hQ c a _ _ w h)
      refine tk 7 hHeld ?_ (hQ := fun c a w h => hQ c a _ _ w h)
      refine tk 8 hHeld ?_ (hQ := fun c a w h => hQ c a _ _ w h)
      refine rd 10 (fun K hK => ?_)
      rw [if_pos (by rfl)]
      refine wp_store_mid 36 (.tmp 2) (.tmp 17) rfl a2 0 XR.toArray rfl rfl (blk_there K2.out (by show 0 + XR.length ≤ 12; rw [HL.out]; exact Nat.le_refl 12)) HSz'.out HO.out ?_
      have q := blk_setCells XR (o := 0) K2.out (by rw [HL.out]; exact Nat.le_refl 12)
      rw [splice_all (by rw [HL.out]; rfl)] at q
      have qb := below_setCells (o := 0) XR HB0.out ha
      refine hK.out _ _ (HS.out _ qb) (fun hHeld => ?_)
      clear hK K
      refine tk 11 hHeld ?_ (hQ := fun c a w h => hQ c a _ _ w h)
      refine tk 12 hHeld ?_ (hQ := fun c a w h => hQ c a _ _ w h)
      refine wpAnyH_done (by kernel_rfl) ?_ _
      clear hHeld
      exact HK.out _ a2 q ha qb
  · skip
    go_simp
    have ha : w.heap.size ≤ y0.heap.size := HB0.out.size
    refine hK.out _ _ (HS.out _ (balloc HB0.out _)) (fun hHeld => ?_)
    clear hK K hHeld
    refine fin (fun W => Blk W y0.heap.size 36 (cRc zRc).toArray ∧ Below w.heap.size w W) ⟨Blk.new _ _ _, balloc HB0.out _⟩ ?_
    clear HB0
    obtain ⟨a2, hgen⟩ : ∃ n, n = y0.heap.size := ⟨_, rfl⟩
    rw [← hgen] at ha ⊢
    clear hgen
    rintro y1 ⟨k2, hb0⟩
    have K2 := Lib.hid k2
    have HB0 := Lib.hid hb0
    clear k2 hb0
    have hHeld := HS.out _ HB0.out
    refine rd 2 (fun K hK => ?_)
    go_simp
    go_at_call 24
    refine (HMv.out _).mono ?_
    rintro e x1 ⟨rfl, b1⟩
    go_wp2_with fail
    refine hK.out _ _ (HS.out _ (bthen HB0.out b1)) (fun hHeld => ?_)
    clear hK K
    replace HB0 := Lib.hid (bthen HB0.out b1)
    replace K2 := Lib.hid (K2.out.keep b1)
    clear b1
    refine tk 3 hHeld ?_ (hQ := fun c a w h => hQ c a _ _ w h)
    refine rd 4 (fun K hK => ?_)
    go_simp
    go_at_call 6
    refine (HOf.out _).mono ?_
    rintro e x2 ⟨rfl, b1⟩
    go_wp2_with fail
    refine hK.out _ _ (HS.out _ (bthen HB0.out b1)) (fun hHeld => ?_)
    clear hK K
    replace HB0 := Lib.hid (bthen HB0.out b1)
    replace K2 := Lib.hid (K2.out.keep b1)
    clear b1
    refine tk 5 hHeld ?_ (hQ := fun c a w h => hQ c a _ _ w h)
    refine tk 6 hHeld ?_ (hQ := fun c a w h => hQ c a _ _ w h)
    refine tk 7 hHeld ?_ (hQ := fun c a w h => hQ c a _ _ w h)
    refine tk 8 hHeld ?_ (hQ := fun c a w h => hQ c a _ _ w h)
    refine rd 10 (fun K hK => ?_)
    rw [if_pos (by rfl)]
    refine wp_store_mid 36 (.tmp 2) (.tmp 17) rfl a2 0 XR.toArray rfl rfl (blk_there K2.out (by show 0 + XR.length ≤ 12; rw [HL.out]; exact Nat.le_refl 12)) HSz'.out HO.out ?_
    have q := blk_setCells XR (o := 0) K2.out (by rw [HL.out]; exact Nat.le_refl 12)
    rw [splice_all (by rw [HL.out]; rfl)] at q
    have qb := below_setCells (o := 0) XR HB0.out ha
    refine hK.out _ _ (HS.out _ qb) (fun hHeld => ?_)
    clear hK K
    refine tk 11 hHeld ?_ (hQ := fun c a w h => hQ c a _ _ w h)
    refine tk 12 hHeld ?_ (hQ := fun c a w h => hQ c a _ _ w h)
    refine wpAnyH_done (by kernel_rfl) ?_ _
    clear hHeld
    exact HK.out _ a2 q ha qb
theorem row_ids2 {W : World} {g : Nat} (k : Blk W g 22 #[.int .i64 12, .int .i64 9]) : Row W (some ⟨g, 0, none⟩) 2 [12, 9] :=
  ⟨rfl, by omega, Or.inr ⟨g, 0, rfl, fun i hi => by
    match i, hi with
    | 0, _ => exact k.cell 0
    | 1, _ => exact k.cell 1⟩⟩
theorem row_of {w : World} {t : TypeId} {base : Nat} {v : Value} {X : List Rc} (h : OwnX 12 cRc t w base v X) (hX : 0 < X.length) : ∃ b cap, v = .slice (some ⟨b, 0, none⟩) X.length cap ∧ X.length ≤ cap ∧ cap ≤ maxLen ∧ RcRow w (some ⟨b, 0, none⟩) X.length X ∧ ∀ i x, X[i]? = some x → w.rangeAt b (i * 12) (cRc x) := by
  obtain ⟨g, cap, hv, _, h1, h2, hm⟩ := h.mr hX
  exact ⟨g, cap, hv, h1, h2, hm.row (by unfold maxLen at h2; omega), fun i x hi => hm.range cRc_len hi⟩
set_option maxHeartbeats 16000000 in
set_option maxRecDepth 100000 in
theorem alive12_any (w : World) : Calls Try.prog 8 #[] w fun e w' => e = .returned (.bool true) ∧ Below w.heap.size w w' := by
  have HSa := Lib.hid (rsame_any)
  have HMv := Lib.hid (rmove_xyz 5 0 0)
  have HOf : Hid (∀ W, Calls Try.prog 6 #[.int .i64 9, .agg (pl P0a).toArray, .agg (lS M5a true).toArray] W fun e w' => e = .returned (.tuple #[.agg (cRc R9a).toArray, .bool true, .int .i64 0]) ∧ Below W.heap.size W w') := Lib.hid (fun W => by
    have q := rcof_any 9 P0a M5a true W
    rw [al_of.1, al_of.2.1, al_of.2.2] at q
    exact q)
  have HPe : Hid (pl P0a = [.int .i64 7, .int .i64 65536, .int .i64 0, .int .i64 0, .int .i64 0, .int .i64 0, .int .i64 65536, .int .i64 0, .int .i64 0, .int .i64 0, .int .i64 0, .int .i64 65536, .int .i64 0, .int .i64 4, .int .i64 0, .int .i64 0, .int .i64 0, .int .i64 0, .int .i64 0, .int .i64 0, .int .i64 2, .int .i64 3, .bool false, .int .i64 0]) := Lib.hid (by kernel_rfl)
  rw [HPe.out, al_state] at HOf
  obtain ⟨XP, hXP⟩ : ∃ XP : List Value, XP = [.int .i64 7, .int .i64 65536, .int .i64 0, .int .i64 0, .int .i64 0, .int .i64 0, .int .i64 65536, .int .i64 0, .int .i64 0, .int .i64 0, .int .i64 0, .int .i64 65536, .int .i64 0, .int .i64 4, .int .i64 0, .int .i64 0, .int .i64 0, .int .i64 0, .int .i64 0, .int .i64 0, .int .i64 2, .int .i64 3, .bool false, .int .i64 0] := ⟨_, rfl⟩
  have HXP := Lib.hid hXP
  rw [← hXP] at HOf
  have HSp : Hid ((Try.prog.info? 32).map (·.size) = some XP.length) := Lib.hid (by rw [hXP]; kernel_rfl)
  have HOp : Hid (XP.toArray.all (·.oneCell') = true ∧ XP.length = 24) := Lib.hid (by rw [hXP, ← HPe.out]; exact ⟨pl_one P0a, rfl⟩)
  clear hXP HPe
  go_enter Try.func8, Try.ntmps8
  go_wp2_with fail
  refine (HSa.out _).mono ?_
  rintro e w1 ⟨rfl, hb⟩
  have HB1 := Lib.hid hb
  clear hb
  have KN := Blk.new w1 32 Z24.toArray
  have HTh : Hid ((w1.alloc (.cells Z24.toArray 32)).there w1.heap.size 0 XP.toArray.size) := Lib.hid (blk_there KN (by show 0 + XP.length ≤ 24; rw [HOp.out.2]; exact Nat.le_refl 24))
  have HSz' : Hid ((Try.prog.info? 32).map (·.size) = some XP.toArray.size) := HSp
  have HW2 : Hid (Blk ((w1.alloc (.cells Z24.toArray 32)).setCells w1.heap.size 0 XP) w1.heap.size 32 XP.toArray ∧ Below w.heap.size w ((w1.alloc (.cells Z24.toArray 32)).setCells w1.heap.size 0 XP)) := Lib.hid (by
    have q := blk_setCells XP (o := 0) KN (by rw [HOp.out.2]; exact Nat.le_refl 24)
    rw [splice_all (by rw [HOp.out.2]; rfl)] at q
    exact ⟨q, below_setCells _ (balloc HB1.out _) HB1.out.size⟩)
  clear KN
  go_upto_region 2 with (refine wpList_store_mid rfl 32 (.tmp 1) (.tmp 10) rfl w1.heap.size 0 XP.toArray rfl (by rw [HXP.out]; rfl) HTh.out HSz'.out HOp.out.1 ?_)
  refine fin (fun W => Blk W w1.heap.size 32 XP.toArray ∧ Below w.heap.size w W) HW2.out ?_
  obtain ⟨g1, hg1⟩ : ∃ g1, g1 = w1.heap.size := ⟨_, rfl⟩
  rw [← hg1]
  clear HW2 HTh hg1 HB1
  rintro W2 ⟨k1, hb⟩
  have K1 := Lib.hid k1
  have HB2 := Lib.hid hb
  clear k1 hb
  obtain ⟨X9, hX9⟩ : ∃ X9, X9 = cRc R9a := ⟨_, rfl⟩
  have HX9 := Lib.hid hX9
  rw [← hX9] at HOf
  have HL9 : Hid (X9.length = 12 ∧ X9.toArray.all (·.oneCell') = true ∧ ((Try.prog.info? 36).map (·.size) = some X9.length)) := Lib.hid (by rw [hX9]; exact ⟨rfl, rc_all _, rc_size _⟩)
  clear hX9
  refine al_r2 (g1 := g1) (XP := XP) (XR := X9) (fun _ _ d _ _ h => by cases d <;> exact h) HL9.out.1 HL9.out.2.1 HSp.out (fun W hb => blk_whole (K1.out.keep hb)) HMv.out HOf.out ?_
  intro W3 g2 k2 _ hb
  have K2 := Lib.hid k2
  have HB3 := Lib.hid (bthen HB2.out hb)
  clear k2 hb HB2 K1 HOf HMv HSa
  obtain ⟨X4, hX4⟩ : ∃ X, X = cRc R4a := ⟨_, rfl⟩
  have HX4 := Lib.hid hX4
  obtain ⟨X12, hX12⟩ : ∃ X, X = cRc R12a := ⟨_, rfl⟩
  have HX12 := Lib.hid hX12
  obtain ⟨X41, hX41⟩ : ∃ X, X = cRc R41a := ⟨_, rfl⟩
  have HX41 := Lib.hid hX41
  obtain ⟨X5, hX5⟩ : ∃ X, X = cRc R5a := ⟨_, rfl⟩
  have HX5 := Lib.hid hX5
  have HL5 : Hid (X5.length = 12 ∧ X5.toArray.all (·.oneCell') = true) := Lib.hid (by rw [hX5]; exact ⟨rfl, rc_all _⟩)
  clear hX4 hX12 hX41 hX5
  have HbA : Hid (∀ W, (Instr.buildSlice 46 2 #[(0, .agg X4.toArray), (1, .agg X12.toArray)]).run Try.prog W = .ok (.slice (some ⟨W.heap.size, 0, none⟩) 2 2) (W.alloc (.cells (X4 ++ X12).toArray 36))) := Lib.hid (by rw [HX4.out, HX12.out]; exact bs_rc2 R4a R12a)
  have HbB : Hid (∀ W, (Instr.buildSlice 46 2 #[(0, .agg X9.toArray), (1, .agg X41.toArray)]).run Try.prog W = .ok (.slice (some ⟨W.heap.size, 0, none⟩) 2 2) (W.alloc (.cells (X9 ++ X41).toArray 36))) := Lib.hid (by rw [HX9.out, HX41.out]; exact bs_rc2 R9a R41a)
  have HbC : Hid (∀ W, (Instr.buildSlice 46 2 #[(0, .agg X9.toArray), (1, .agg X5.toArray)]).run Try.prog W = .ok (.slice (some ⟨W.heap.size, 0, none⟩) 2 2) (W.alloc (.cells (X9 ++ X5).toArray 36))) := Lib.hid (by rw [HX9.out, HX5.out]; exact bs_rc2 R9a R5a)
  have HIn : Hid (∀ W g h, RcRow W (some ⟨g, 0, none⟩) 2 [R4a, R12a] → RcRow W (some ⟨h, 0, none⟩) 2 [R9a, R41a] → Calls Try.prog 14 #[.slice (some ⟨g, 0, none⟩) 2 2, .slice (some ⟨h, 0, none⟩) 2 2] W fun e w' => ∃ b cap, e = .returned (.slice (some ⟨b, 0, none⟩) 3 cap) ∧ 3 ≤ cap ∧ RcRow w' (some ⟨b, 0, none⟩) 3 [R41a, R9a, R12a] ∧ b < w'.heap.size ∧ w'.cell? ⟨b, 1, none⟩ = some (.int .i64 1) ∧ w'.cell? ⟨b, 13, none⟩ = some (.int .i64 4) ∧ Below W.heap.size W w') := Lib.hid (fun W g h r1 r2 => by
    refine (insert_any (some ⟨g, 0, none⟩) 2 2 [R4a, R12a] (some ⟨h, 0, none⟩) 2 2 [R9a, R41a] W r1 r2 (Nat.le_refl _) (by unfold maxLen; omega) ?_ (by omega)).mono ?_
    · exact List.pairwise_cons.2 ⟨fun x hx => by rw [List.mem_singleton.1 hx]; decide, List.pairwise_singleton _ _⟩
    · rintro e w' ⟨v, R, rfl, ⟨ho, _, hr, hk⟩, hb⟩
      have hR := al_ins hr hk
      subst hR
      obtain ⟨b, cap, rfl, hc, _, hrow, hrg⟩ := row_of ho (by decide)
      have hlt : b < w'.heap.size := (ho.lt b rfl).2
      have c1 := hrg 0 R41a rfl 1 _ rfl
      have c13 := hrg 1 R9a rfl 1 _ rfl
      exact ⟨b, cap, rfl, hc, hrow, hlt, c1, c13, hb⟩)
  have HRm : Hid (∀ W b cap g, RcRow W (some ⟨b, 0, none⟩) 3 [R41a, R9a, R12a] → Blk W g 22 #[.int .i64 12, .int .i64 9] → Calls Try.prog 15 #[.slice (some ⟨b, 0, none⟩) 3 cap, .slice (some ⟨g, 0, none⟩) 2 2] W fun e w' => ∃ b' cap', e = .returned (.slice (some ⟨b', 0, none⟩) 1 cap') ∧ Below W.heap.size W w') := Lib.hid (fun W b cap g hr k => by
    refine (remove_any (some ⟨b, 0, none⟩) 3 cap [R41a, R9a, R12a] (some ⟨g, 0, none⟩) 2 2 [12, 9] W hr (row_ids2 k) (by omega) (by omega) ?_ ?_).mono ?_
    · intro x hx
      simp only [List.mem_cons, List.not_mem_nil, or_false] at hx
      rcases hx with rfl | rfl | rfl <;> decide
    · intro x hx
      simp only [List.mem_cons, List.not_mem_nil, or_false] at hx
      rcases hx with rfl | rfl <;> decide
    · rintro e w' ⟨v, rfl, ho, hb⟩
      rw [al_rem] at ho
      obtain ⟨b, cap, rfl, _, _, _, _⟩ := row_of ho (by decide)
      exact ⟨b, cap, rfl, hb⟩)
  have HLe : Hid (∀ W h, RcRow W (some ⟨h, 0, none⟩) 2 [R9a, R5a] → Calls Try.prog 10 #[.slice (some ⟨h, 0, none⟩) 2 2] W fun e w' => e = .returned (.tuple #[.agg X5.toArray, .bool true]) ∧ Below W.heap.size W w') := Lib.hid (fun W h r => by
    have q := least_pos (some ⟨h, 0, none⟩) 2 2 [R9a, R5a] W r (by omega) (by omega)
    rw [show 2 - 1 = 1 from rfl, al_min, ← HX5.out] at q
    exact q)
  have HrA : Hid (∀ W g, Blk W g 36 (X4 ++ X12).toArray → RcRow W (some ⟨g, 0, none⟩) 2 [R4a, R12a]) := Lib.hid (fun W g k => row_two (by rw [HX4.out, HX12.out] at k; exact k))
  have HrB : Hid (∀ W g, Blk W g 36 (X9 ++ X41).toArray → RcRow W (some ⟨g, 0, none⟩) 2 [R9a, R41a]) := Lib.hid (fun W g k => row_two (by rw [HX9.out, HX41.out] at k; exact k))
  have HrC : Hid (∀ W g, Blk W g 36 (X9 ++ X5).toArray → RcRow W (some ⟨g, 0, none⟩) 2 [R9a, R5a]) := Lib.hid (fun W g k => row_two (by rw [HX9.out, HX5.out] at k; exact k))
  have bA := alloc_below W3 (.cells (X4 ++ X12).toArray 36)
  have KA := Blk.new W3 36 (X4 ++ X12).toArray
  have K2a := K2.out.keep bA
  go_wp2_with (first
    | refine wpList_bsR2 rfl 46 36 (.tmp 20) (.tmp 21) rfl X4 X12 (by rw [HX4.out]; rfl) (by rw [HX12.out]; rfl) HbA.out ?_
    | refine wpList_load_mid rfl 36 (.tmp 2) rfl g2 0 rfl X9 _ (blk_whole K2a) Try.underlying36 rfl HL9.out.2.2 ?_
    | refine wpList_bsR2 rfl 46 36 (.tmp 23) (.tmp 24) rfl X9 X41 rfl (by rw [HX41.out]; rfl) HbB.out ?_)
  have hsz : (W3.alloc (.cells (X4 ++ X12).toArray 36)).heap.size = W3.heap.size + 1 := by simp
  refine (HIn.out _ W3.heap.size (W3.heap.size + 1) ((HrA.out _ _ KA).keep (alloc_below _ _)) (HrB.out _ _ (hsz ▸ Blk.new _ _ _))).mono ?_
  rintro e w4 ⟨b, cap, rfl, hcap, hrow, hbl, c1, c13, hb⟩
  have hal := bthen (bthen bA (alloc_below _ (.cells (X9 ++ X41).toArray 36))) hb
  have K2b := Lib.hid (K2.out.keep hal)
  have HB4 := Lib.hid (bthen HB3.out hal)
  have HRow := Lib.hid hrow
  have HCc := Lib.hid (And.intro c1 c13)
  clear hb hal hrow c1 c13 bA KA hsz K2a K2 HB3 HIn HrA HrB HbA HbB
  have hbi : ∀ W, (Instr.buildSlice 48 2 #[(0, .int .i64 12), (1, .int .i64 9)]).run Try.prog W = .ok (.slice (some ⟨W.heap.size, 0, none⟩) 2 2) (W.alloc (.cells #[.int .i64 12, .int .i64 9] 22)) := fun W => by kernel_rfl
  go_wp2_with fail
  refine (HRm.out _ b cap _ (HRow.out.keep (alloc_below _ _)) (Blk.new w4 22 #[.int .i64 12, .int .i64 9])).mono ?_
  rintro e w5 ⟨b5, cap5, rfl, hb⟩
  have hal := bthen (alloc_below w4 (.cells #[.int .i64 12, .int .i64 9] 22)) hb
  have K2c := Lib.hid (K2b.out.keep hal)
  have HB5 := Lib.hid (bthen HB4.out hal)
  have HCd : Hid (w5.cell? ⟨b, 1, none⟩ = some (.int .i64 1) ∧ w5.cell? ⟨b, 13, none⟩ = some (.int .i64 4) ∧ b < w5.heap.size) := Lib.hid ⟨(hal.cell (p := ⟨b, 1, none⟩) hbl).trans HCc.out.1, (hal.cell (p := ⟨b, 13, none⟩) hbl).trans HCc.out.2, Nat.lt_of_lt_of_le hbl hal.size⟩
  clear hb hal K2b HB4 HRow HCc hbl HRm hbi
  go_wp2_with (first
    | refine wpList_load_mid rfl 36 (.tmp 2) rfl g2 0 rfl X9 _ (blk_whole K2c.out) Try.underlying36 rfl HL9.out.2.2 ?_
    | refine wpList_bsR2 rfl 46 36 (.tmp 31) (.tmp 32) rfl X9 X5 rfl (by rw [HX5.out]; rfl) HbC.out ?_)
  refine (HLe.out _ _ (HrC.out _ _ (Blk.new w5 _ _))).mono ?_
  rintro e w6 ⟨rfl, hb⟩
  have hal := bthen (alloc_below w5 (.cells (X9 ++ X5).toArray 36)) hb
  have K2d := Lib.hid (K2c.out.keep hal)
  have HB6 := Lib.hid (bthen HB5.out hal)
  have HCe : Hid (w6.cell? ⟨b, 1, none⟩ = some (.int .i64 1) ∧ w6.cell? ⟨b, 13, none⟩ = some (.int .i64 4) ∧ b < w6.heap.size) := Lib.hid ⟨(hal.cell (p := ⟨b, 1, none⟩) HCd.out.2.2).trans HCd.out.1, (hal.cell (p := ⟨b, 13, none⟩) HCd.out.2.2).trans HCd.out.2.1, Nat.lt_of_lt_of_le HCd.out.2.2 hal.size⟩
  clear hb hal K2c HB5 HCd HLe HrC HbC
  have KN := Blk.new w6 36 (cRc zRc).toArray
  have HT7 : Hid ((w6.alloc (.cells (cRc zRc).toArray 36)).there w6.heap.size 0 X5.toArray.size) := Lib.hid (blk_there KN (by show 0 + X5.length ≤ 12; rw [HL5.out.1]; exact Nat.le_refl 12))
  have HS7 : Hid ((Try.prog.info? 36).map (·.size) = some X5.toArray.size) := Lib.hid (by show _ = some X5.length; rw [HL5.out.1]; kernel_rfl)
  have HO7 : Hid (X5.toArray.all (·.oneCell') = true) := Lib.hid HL5.out.2
  have HW7 : Hid (Blk ((w6.alloc (.cells (cRc zRc).toArray 36)).setCells w6.heap.size 0 X5) g2 36 X9.toArray ∧ ((w6.alloc (.cells (cRc zRc).toArray 36)).setCells w6.heap.size 0 X5).cell? ⟨w6.heap.size, 0, none⟩ = some (.int .i64 5) ∧ ((w6.alloc (.cells (cRc zRc).toArray 36)).setCells w6.heap.size 0 X5).cell? ⟨b, 1, none⟩ = some (.int .i64 1) ∧ ((w6.alloc (.cells (cRc zRc).toArray 36)).setCells w6.heap.size 0 X5).cell? ⟨b, 13, none⟩ = some (.int .i64 4) ∧ Below w.heap.size w ((w6.alloc (.cells (cRc zRc).toArray 36)).setCells w6.heap.size 0 X5)) := Lib.hid (by
    have hbel : Below w6.heap.size w6 ((w6.alloc (.cells (cRc zRc).toArray 36)).setCells w6.heap.size 0 X5) := below_setCells _ (alloc_below _ _) (Nat.le_refl _)
    have q := blk_setCells X5 (o := 0) KN (by rw [HL5.out.1]; exact Nat.le_refl 12)
    rw [splice_all (by rw [HL5.out.1]; rfl)] at q
    have q0 := q.cell 0
    rw [HX5.out] at q0 ⊢
    exact ⟨K2d.out.keep (HX5.out ▸ hbel), q0, ((HX5.out ▸ hbel).cell (p := ⟨b, 1, none⟩) HCe.out.2.2).trans HCe.out.1, ((HX5.out ▸ hbel).cell (p := ⟨b, 13, none⟩) HCe.out.2.2).trans HCe.out.2.1, bthen HB6.out (HX5.out ▸ hbel)⟩)
  clear KN
  go_upto_region 6 with (refine wpList_store_mid rfl 36 (.tmp 7) (.tmp 35) rfl w6.heap.size 0 X5.toArray rfl rfl HT7.out HS7.out HO7.out ?_)
  refine fin (fun W => Blk W g2 36 X9.toArray ∧ W.cell? ⟨w6.heap.size, 0, none⟩ = some (.int .i64 5) ∧ W.cell? ⟨b, 1, none⟩ = some (.int .i64 1) ∧ W.cell? ⟨b, 13, none⟩ = some (.int .i64 4) ∧ Below w.heap.size w W) HW7.out ?_
  clear HW7 HT7 HCe K2d HB6
  rintro W8 ⟨k2, c7, c1, c13, hb⟩
  have HB8 := Lib.hid hb
  have d0 : W8.cell? ⟨g2, 0, none⟩ = some (.int .i64 9) := by rw [HX9.out] at k2; exact k2.cell 0
  have d5 : W8.cell? ⟨g2, 5, none⟩ = some (.int .i64 1) := by rw [HX9.out] at k2; exact k2.cell 5
  have d6 : W8.cell? ⟨g2, 6, none⟩ = some (.int .i64 5) := by rw [HX9.out] at k2; exact k2.cell 6
  clear hb k2
  go_wp2
  go_ret
  exact ⟨rfl, HB8.out⟩
end Go.Proofs.Ytffbehcbokmpkaa
