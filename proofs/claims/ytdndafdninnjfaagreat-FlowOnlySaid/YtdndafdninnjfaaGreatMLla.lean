/-
  2 texts in one file, each with its own heading.
-/
import Derived.Test.YtdndafdninnjfaaGreatMQLfoK
import Derived.Test.YtdndafdninnjfaaGreatMQShh
import Derived.Test.YtdndafdninnjfaaGreatMFra
/-
  The landed flow in memory: its three maps as functions, names of a map in order, what stays where one part of it changes.
-/
namespace Go.Proofs.YtdndafdninnjfaaGreat
open Go.RowKit

def enc1 : Value → DataW Unit
  | .int k x => .lit (.int k x)
  | .bool b => .lit (.bool b)
  | _ => .nil
def simp1 (v : Value) : Prop := (∃ k x, v = .int k x) ∨ ∃ b, v = .bool b
theorem enc1_inj {v u : Value} (hu : simp1 u) (h : enc1 v = enc1 u) : v = u := by
  rcases hu with ⟨k, x, rfl⟩ | ⟨b, rfl⟩
  · cases v <;> simp [enc1] at h ⊢
    exact h
  · cases v <;> simp [enc1] at h ⊢
    exact h
def encA : Value → DataW Unit
  | .agg a => .agg (a.toList.map enc1)
  | _ => .nil
theorem enc_list : ∀ {xs l : List Value}, (∀ u ∈ l, simp1 u) → xs.map enc1 = l.map enc1 → xs = l
  | [], [], _, _ => rfl
  | [], _ :: _, _, h => by simp at h
  | _ :: _, [], _, h => by simp at h
  | x :: xs, y :: l, hl, h => by
    rw [List.map_cons, List.map_cons] at h
    injection h with h1 h2
    rw [enc1_inj (hl y List.mem_cons_self) h1, enc_list (fun u hu => hl u (List.mem_cons_of_mem _ hu)) h2]
theorem encA_inj {v : Value} {l : List Value} (hl : ∀ u ∈ l, simp1 u) (h : encA v = encA (.agg l.toArray)) : v = .agg l.toArray := by
  cases v with
  | agg a =>
    unfold encA at h
    injection h with h
    have := enc_list (xs := a.toList) (l := l) hl h
    rw [← this]
  | _ => simp [encA] at h
def mkA {α : Type} (t e : TypeId) (V : Option α → Value) (ht : Tryz.prog.underlying t = some (.map 41 e)) (hz : ∀ w, (zeroValue e).run Tryz.prog w = .ok (V none) w) (hV : ∀ o, ∃ l : List Value, V o = .agg l.toArray ∧ ∀ u ∈ l, simp1 u) : MK α where
  t := t
  e := e
  V := V
  E o := encA (V o)
  R v := some (encA v, [])
  ht := ht
  hz := hz
  rv o := rfl
  inv v o ps h := by
    simp at h
    obtain ⟨l, hl, hs⟩ := hV o
    rw [hl] at h ⊢
    exact encA_inj hs h.1
/-! the maps of a flow -/
theorem lMs (M : Nat → Int) : ∀ u ∈ lM M, simp1 u := fun u hu => by
  unfold lM at hu
  simp only [List.mem_cons, List.not_mem_nil, or_false] at hu
  rcases hu with h | h | h | h | h | h | h | h | h | h | h | h <;> exact Or.inl ⟨_, _, h⟩
abbrev BD := (Nat → Int) × Bool
abbrev RD := Stt × Nat
def zB : BD := (fun _ => 0, false)
def zR : RD := (zSt, 0)
def cBd (p : BD) : List Value := [.int .i64 (p.1 0), .int .i64 (p.1 1), .int .i64 (p.1 2), .int .i64 (p.1 3), .int .i64 (p.1 4), .int .i64 (p.1 5), .int .i64 (p.1 6), .int .i64 (p.1 7), .int .i64 (p.1 8), .int .i64 (p.1 9), .int .i64 (p.1 10), .int .i64 (p.1 11), .bool p.2]
def cSd (p : RD) : List Value := [.int .i64 (p.1.wo 0), .int .i64 (p.1.wo 1), .int .i64 (p.1.wo 2), .int .i64 (p.1.wo 3), .int .i64 (p.1.wo 4), .int .i64 (p.1.wo 5), .int .i64 (p.1.wo 6), .int .i64 (p.1.wo 7), .int .i64 (p.1.wo 8), .int .i64 (p.1.wo 9), .int .i64 (p.1.wo 10), .int .i64 (p.1.wo 11), .bool p.1.sh, .int .i64 p.2]
theorem cBd_eq (p : BD) : cBd p = lM p.1 ++ [.bool p.2] := rfl
theorem cSd_eq (p : RD) : cSd p = lM p.1.wo ++ [.bool p.1.sh, .int .i64 p.2] := rfl
theorem cNd_eq (n : Nd) : cNd n = [.int .i64 n.id, .int .i64 n.par] ++ lM n.pl ++ [.bool n.hid] := rfl
theorem zvb (w : World) : (zeroValue 97).run Tryz.prog w = .ok (.agg (cBd zB).toArray) w := by kernel_rfl
theorem zvr (w : World) : (zeroValue 86).run Tryz.prog w = .ok (.agg (cSd zR).toArray) w := by kernel_rfl
theorem zvn (w : World) : (zeroValue 59).run Tryz.prog w = .ok (.agg (cNd zNd).toArray) w := by kernel_rfl
theorem zvx (w : World) : (zeroValue 77).run Tryz.prog w = .ok (.agg #[]) w := by kernel_rfl
def bK : MK BD := mkA 63 97 (fun o => .agg (cBd (o.getD zB)).toArray) Tryz.underlying63 zvb (fun o => ⟨_, rfl, fun u hu => by
  rw [cBd_eq] at hu
  rcases List.mem_append.1 hu with h | h
  · exact lMs _ u h
  · exact Or.inr ⟨_, List.mem_singleton.1 h⟩⟩)
def sK : MK RD := mkA 64 86 (fun o => .agg (cSd (o.getD zR)).toArray) Tryz.underlying64 zvr (fun o => ⟨_, rfl, fun u hu => by
  rw [cSd_eq] at hu
  rcases List.mem_append.1 hu with h | h
  · exact lMs _ u h
  · rcases List.mem_cons.1 h with h | h
    · exact Or.inr ⟨_, h⟩
    · exact Or.inl ⟨_, _, List.mem_singleton.1 h⟩⟩)
def nK : MK Nd := mkA 90 59 (fun o => .agg (cNd (o.getD zNd)).toArray) Tryz.underlying90 zvn (fun o => ⟨_, rfl, fun u hu => by
  rw [cNd_eq] at hu
  rcases List.mem_append.1 hu with h | h
  · rcases List.mem_append.1 h with h | h
    · rcases List.mem_cons.1 h with h | h
      · exact Or.inl ⟨_, _, h⟩
      · exact Or.inl ⟨_, _, List.mem_singleton.1 h⟩
    · exact lMs _ u h
  · exact Or.inr ⟨_, List.mem_singleton.1 h⟩⟩)
def xK : MK Unit := mkA 65 77 (fun _ => .agg #[]) Tryz.underlying65 zvx (fun _ => ⟨[], rfl, fun u hu => by cases hu⟩)
/-- all entries go -/
theorem MF.clear {α : Type} {k : MK α} {w : World} {mb : Nat} {m : Int → Option α} (h : MF k w mb m) :
    ∃ w', (∀ ty, (Builtin.clear_ #[k.t] ty #[.map (some mb)]).run Tryz.prog w = .ok (.tuple #[]) w') ∧ MF k w' mb (fun _ => none) ∧ w.grownBy w' (some mb) := by
  obtain ⟨D, ⟨es, clock, hb, F, hs, hD⟩, hk⟩ := h
  refine ⟨Go.ChangeMaps.setBlock w mb (.map #[] clock), fun ty => ?_, ⟨.map [], ⟨#[], clock, Go.ChangeMaps.heap_setBlock_same hb _, ⟨by simp, Go.MapKept.stamped_empty _, by simp⟩, by simp, rfl⟩, fun _ _ => ⟨rfl, rfl⟩, fun x h => by cases h⟩, ?_⟩
  · simp [Builtin.clear_, run_underlying k.ht, Go.MapKept.run_getObj_map hb, Go.MapKept.run_setObj_map _ hb, Result.andThen, Go.ChangeMaps.setBlock]
  · exact World.mapTurned.grown ⟨es, clock, #[], clock, hb, rfl⟩
/-! names of a map, in order -/
theorem sortsB (m : Nat) : AnyZI.SortsIn Tryz.prog lay_sortedB_ren Fence.wide m :=
  ⟨fun blk off cap ss W hH hblk hsz => callsIn_wide.2 (AnyM.slices_Sort_int lay_sortB blk off cap ss W hH hblk hsz),
   fun p cap W => callsIn_wide.2 (AnyM.slices_Sort_int_none lay_sortB p cap W)⟩
theorem keysX9 (mb : Option Nat) (w : World) : Calls Tryz.prog 24 #[.map mb] w fun e w' => e = .returned (.func (.func 47) #[] #[.pointer (some ⟨w.heap.size, 0, none⟩)]) ∧ w' = w.alloc (.cells #[.map mb] 65) :=
  (callsIn_wide (n := 5)).1 (AnyZI.keys_in lay_keysX Fence.wide 5 trivial rfl mb w)
set_option maxHeartbeats 1000000 in
theorem sortedX9 {α : Type} {k : MK α} {w : World} {mb : Nat} {m : Int → Option α} (h : MF k w mb m) (K : List Int) (hK : K.Pairwise (· < ·)) (hm : ∀ z, z ∈ K ↔ Rg z ∧ (m z).isSome = true) : Calls Tryz.prog 23 #[.func (.func 47) #[] #[.pointer (some ⟨w.heap.size, 0, none⟩)]] (w.alloc (.cells #[.map (some mb)] 65)) fun e w' => ∃ v, e = .returned v ∧ OwnD w' w.heap.size v K.length K ∧ Below w.heap.size w w' := by
  obtain ⟨D, hown, hk, hr⟩ := h
  have hbl := hown.lt
  have hsz := hown.size_le
  have hpk : K.Perm (intKeys D) := CollectedI.perm (left := fun _ => false) ⟨up_nod hK, fun x => by
    rw [hm]
    exact ⟨fun q => ⟨by rw [(hk x q.1).2]; exact q.2, rfl⟩, fun q => ⟨hr x q.1, by rw [← (hk x (hr x q.1)).2]; exact q.1⟩⟩⟩ hown id_law Tryz.underlying41 (fun _ => rfl)
  have hseq : SeqGives Fence.wide 2 Tryz.prog 47 #[.pointer (some ⟨w.heap.size, 0, none⟩)] encZ (fun ss => ss.Perm (intKeys D)) (Maps.size D) (w.alloc (.cells #[.map (some mb)] 65)) :=
    AnyZI.keys_gives (ρ := lay_keysX_ren) { lay_keysX with } Fence.wide _ trivial rfl (by omega) w.heap.size mb 100000 D _ (by simp) (by simp) (by
      obtain ⟨es, clock, hb, Ft, hs, hD⟩ := hown
      exact ⟨es, clock, (Below.heap_alloc _ _ mb hbl).trans hb, Ft, hs, hD⟩)
  have cS := AnyZI.sorted_in lay_sortedB Fence.wide 5 trivial trivial trivial trivial rfl (by omega) (sortsB _) (Go.Proofs.enters_of Tryz.func46 (by kernel_rfl) rfl) 47 #[.pointer (some ⟨w.heap.size, 0, none⟩)] trivial (Go.Proofs.enters_of Tryz.func47 (by kernel_rfl) rfl) _ (Maps.size D) (by unfold maxLen; omega) (by omega) _ hseq
  refine ((callsIn_wide (n := 5)).1 cS).mono ?_
  rintro e w' ⟨v, ss, rfl, hS, hrow, _, hb⟩
  have hp : ss.Perm K := hS.trans hpk.symm
  have e1 := srt_up hp hK
  have e2 := hp.length_eq
  rw [e1, e2] at hrow
  exact ⟨v, rfl, ownsRow_base_a hrow (by simp), ((Below.refl _ w).alloc (Nat.le_refl _) _).trans (hb.mono (by simp))⟩
theorem keysY9 (mb : Option Nat) (w : World) : Calls Tryz.prog 49 #[.map mb] w fun e w' => e = .returned (.func (.func 71) #[] #[.pointer (some ⟨w.heap.size, 0, none⟩)]) ∧ w' = w.alloc (.cells #[.map mb] 63) :=
  (callsIn_wide (n := 5)).1 (AnyZI.keys_in lay_keysY Fence.wide 5 trivial rfl mb w)
set_option maxHeartbeats 1000000 in
theorem sortedY9 {α : Type} {k : MK α} {w : World} {mb : Nat} {m : Int → Option α} (h : MF k w mb m) (K : List Int) (hK : K.Pairwise (· < ·)) (hm : ∀ z, z ∈ K ↔ Rg z ∧ (m z).isSome = true) : Calls Tryz.prog 23 #[.func (.func 71) #[] #[.pointer (some ⟨w.heap.size, 0, none⟩)]] (w.alloc (.cells #[.map (some mb)] 63)) fun e w' => ∃ v, e = .returned v ∧ OwnD w' w.heap.size v K.length K ∧ Below w.heap.size w w' := by
  obtain ⟨D, hown, hk, hr⟩ := h
  have hbl := hown.lt
  have hsz := hown.size_le
  have hpk : K.Perm (intKeys D) := CollectedI.perm (left := fun _ => false) ⟨up_nod hK, fun x => by
    rw [hm]
    exact ⟨fun q => ⟨by rw [(hk x q.1).2]; exact q.2, rfl⟩, fun q => ⟨hr x q.1, by rw [← (hk x (hr x q.1)).2]; exact q.1⟩⟩⟩ hown id_law Tryz.underlying41 (fun _ => rfl)
  have hseq : SeqGives Fence.wide 2 Tryz.prog 71 #[.pointer (some ⟨w.heap.size, 0, none⟩)] encZ (fun ss => ss.Perm (intKeys D)) (Maps.size D) (w.alloc (.cells #[.map (some mb)] 63)) :=
    AnyZI.keys_gives (ρ := lay_keysY_ren) { lay_keysY with } Fence.wide _ trivial rfl (by omega) w.heap.size mb 100000 D _ (by simp) (by simp) (by
      obtain ⟨es, clock, hb, Ft, hs, hD⟩ := hown
      exact ⟨es, clock, (Below.heap_alloc _ _ mb hbl).trans hb, Ft, hs, hD⟩)
  have cS := AnyZI.sorted_in lay_sortedB Fence.wide 5 trivial trivial trivial trivial rfl (by omega) (sortsB _) (Go.Proofs.enters_of Tryz.func46 (by kernel_rfl) rfl) 71 #[.pointer (some ⟨w.heap.size, 0, none⟩)] trivial (Go.Proofs.enters_of Tryz.func71 (by kernel_rfl) rfl) _ (Maps.size D) (by unfold maxLen; omega) (by omega) _ hseq
  refine ((callsIn_wide (n := 5)).1 cS).mono ?_
  rintro e w' ⟨v, ss, rfl, hS, hrow, _, hb⟩
  have hp : ss.Perm K := hS.trans hpk.symm
  have e1 := srt_up hp hK
  have e2 := hp.length_eq
  rw [e1, e2] at hrow
  exact ⟨v, rfl, ownsRow_base_a hrow (by simp), ((Below.refl _ w).alloc (Nat.le_refl _) _).trans (hb.mono (by simp))⟩
theorem keysN9 (mb : Option Nat) (w : World) : Calls Tryz.prog 34 #[.map mb] w fun e w' => e = .returned (.func (.func 59) #[] #[.pointer (some ⟨w.heap.size, 0, none⟩)]) ∧ w' = w.alloc (.cells #[.map mb] 90) :=
  (callsIn_wide (n := 5)).1 (AnyZI.keys_in lay_keysN Fence.wide 5 trivial rfl mb w)
set_option maxHeartbeats 1000000 in
theorem sortedN9 {α : Type} {k : MK α} {w : World} {mb : Nat} {m : Int → Option α} (h : MF k w mb m) (K : List Int) (hK : K.Pairwise (· < ·)) (hm : ∀ z, z ∈ K ↔ Rg z ∧ (m z).isSome = true) : Calls Tryz.prog 23 #[.func (.func 59) #[] #[.pointer (some ⟨w.heap.size, 0, none⟩)]] (w.alloc (.cells #[.map (some mb)] 90)) fun e w' => ∃ v, e = .returned v ∧ OwnD w' w.heap.size v K.length K ∧ Below w.heap.size w w' := by
  obtain ⟨D, hown, hk, hr⟩ := h
  have hbl := hown.lt
  have hsz := hown.size_le
  have hpk : K.Perm (intKeys D) := CollectedI.perm (left := fun _ => false) ⟨up_nod hK, fun x => by
    rw [hm]
    exact ⟨fun q => ⟨by rw [(hk x q.1).2]; exact q.2, rfl⟩, fun q => ⟨hr x q.1, by rw [← (hk x (hr x q.1)).2]; exact q.1⟩⟩⟩ hown id_law Tryz.underlying41 (fun _ => rfl)
  have hseq : SeqGives Fence.wide 2 Tryz.prog 59 #[.pointer (some ⟨w.heap.size, 0, none⟩)] encZ (fun ss => ss.Perm (intKeys D)) (Maps.size D) (w.alloc (.cells #[.map (some mb)] 90)) :=
    AnyZI.keys_gives (ρ := lay_keysN_ren) { lay_keysN with } Fence.wide _ trivial rfl (by omega) w.heap.size mb 100000 D _ (by simp) (by simp) (by
      obtain ⟨es, clock, hb, Ft, hs, hD⟩ := hown
      exact ⟨es, clock, (Below.heap_alloc _ _ mb hbl).trans hb, Ft, hs, hD⟩)
  have cS := AnyZI.sorted_in lay_sortedB Fence.wide 5 trivial trivial trivial trivial rfl (by omega) (sortsB _) (Go.Proofs.enters_of Tryz.func46 (by kernel_rfl) rfl) 59 #[.pointer (some ⟨w.heap.size, 0, none⟩)] trivial (Go.Proofs.enters_of Tryz.func59 (by kernel_rfl) rfl) _ (Maps.size D) (by unfold maxLen; omega) (by omega) _ hseq
  refine ((callsIn_wide (n := 5)).1 cS).mono ?_
  rintro e w' ⟨v, ss, rfl, hS, hrow, _, hb⟩
  have hp : ss.Perm K := hS.trans hpk.symm
  have e1 := srt_up hp hK
  have e2 := hp.length_eq
  rw [e1, e2] at hrow
  exact ⟨v, rfl, ownsRow_base_a hrow (by simp), ((Below.refl _ w).alloc (Nat.le_refl _) _).trans (hb.mono (by simp))⟩
/-! the flow -/
structure Wp where
  g : Nat
  gf : Nat
  gn : Nat
  gs : Nat
  gm : Nat
  Ff : Nat → Prop
  T : FT
  N : Int → Option BD
  S : Int → Option RD
  M : Int → Option Unit
  st : Nat
structure LW (w : World) (p : Wp) : Prop where
  blk : Blk w p.g 67 #[.pointer (some ⟨p.gf, 0, none⟩), .map (some p.gn), .map (some p.gs), .map (some p.gm), .int .i64 p.st]
  fo : LFB w p.gf p.Ff p.T
  nod : MF bK w p.gn p.N
  sts : MF sK w p.gs p.S
  mrk : MF xK w p.gm p.M
  d1 : p.g ≠ p.gn
  d2 : p.g ≠ p.gs
  d3 : p.g ≠ p.gm
  d4 : p.gn ≠ p.gs
  d5 : p.gn ≠ p.gm
  d6 : p.gs ≠ p.gm
  f1 : ¬ p.Ff p.g
  f2 : ¬ p.Ff p.gn
  f3 : ¬ p.Ff p.gs
  f4 : ¬ p.Ff p.gm
def footL (p : Wp) (b : Nat) : Prop := b = p.g ∨ b = p.gn ∨ b = p.gs ∨ b = p.gm ∨ p.Ff b
/-- another one behind -/
def ChL (w w' : World) (p q : Wp) : Prop := LW w' q ∧ Fr w w' (footL p) ∧ ∀ b, footL q b → footL p b ∨ w.heap.size ≤ b
section
variable {w w' w1 w2 : World} {p q r : Wp}
theorem LW.inb (h : LW w p) : ∀ b, footL p b → b < w.heap.size := by
  rintro b (rfl | rfl | rfl | rfl | e)
  · exact h.blk.lt
  · exact h.nod.lt
  · exact h.sts.lt
  · exact h.mrk.lt
  · exact h.fo.inb b e
theorem LW.same (h : LW w p) (he : ∀ b, footL p b → w'.heap[b]? = w.heap[b]?) : LW w' p :=
  ⟨h.blk.same (he _ (Or.inl rfl)), h.fo.keep_ (fun b hb => he b (Or.inr (Or.inr (Or.inr (Or.inr hb))))), h.nod.same (he _ (Or.inr (Or.inl rfl))), h.sts.same (he _ (Or.inr (Or.inr (Or.inl rfl)))), h.mrk.same (he _ (Or.inr (Or.inr (Or.inr (Or.inl rfl))))), h.d1, h.d2, h.d3, h.d4, h.d5, h.d6, h.f1, h.f2, h.f3, h.f4⟩
theorem LW.keep (h : LW w p) (hb : Below w.heap.size w w') : LW w' p := h.same (fun b hf => hb.block b (h.inb b hf))
theorem ChL.still (h : LW w p) (hb : Below w.heap.size w w') : ChL w w' p p := ⟨h.keep hb, ⟨hb.os, hb.tape, hb.output, hb.size, fun b hl _ => hb.block b hl⟩, fun _ k => Or.inl k⟩
theorem ChL.of (h : ChL w1 w2 p q) (hb : Below w.heap.size w w1) : ChL w w2 p q :=
  ⟨h.1, Fr.after hb h.2.1, fun b hf => (h.2.2 b hf).imp_right (fun c => Nat.le_trans hb.size c)⟩
theorem ChL.behind (h : ChL w w1 p q) (hb : Below w1.heap.size w1 w2) : ChL w w2 p q := ⟨h.1.keep hb, Fr.behind h.2.1 hb, h.2.2⟩
theorem ChL.join (h : ChL w w1 p q) (k : ChL w1 w2 q r) : ChL w w2 p r := by
  obtain ⟨h1, h2, h3⟩ := h
  obtain ⟨k1, k2, k3⟩ := k
  refine ⟨k1, Fr.two h2 k2 h3, fun b hb => ?_⟩
  rcases k3 b hb with d | d
  · exact h3 b d
  · exact Or.inr (Nat.le_trans h2.2.2.2.1 d)
theorem LW.rest (h : LW w p) {o : Nat} (hg : w.grownBy w' (some o)) {b : Nat} (hb : footL p b) (hne : b ≠ o) : w'.heap[b]? = w.heap[b]? := hg.block b (h.inb b hb) (fun e => hne (by injection e))
theorem LW.setN (h : LW w p) {N' : Int → Option BD} (hm : MF bK w' p.gn N') (hg : w.grownBy w' (some p.gn)) : ChL w w' p { p with N := N' } := by
  refine ⟨⟨h.blk.same (h.rest hg (Or.inl rfl) h.d1), h.fo.keep_ (fun b hb => h.rest hg (Or.inr (Or.inr (Or.inr (Or.inr hb)))) (fun e => h.f2 (e ▸ hb))), hm, h.sts.same (h.rest hg (Or.inr (Or.inr (Or.inl rfl))) (fun e => h.d4 e.symm)), h.mrk.same (h.rest hg (Or.inr (Or.inr (Or.inr (Or.inl rfl)))) (fun e => h.d5 e.symm)), h.d1, h.d2, h.d3, h.d4, h.d5, h.d6, h.f1, h.f2, h.f3, h.f4⟩, ⟨hg.os, hg.tape, hg.output, hg.size, fun b hl hn => hg.block b hl (fun e => hn (by injection e with e; exact Or.inr (Or.inl e)))⟩, fun b hb => Or.inl hb⟩
theorem LW.setS (h : LW w p) {S' : Int → Option RD} (hm : MF sK w' p.gs S') (hg : w.grownBy w' (some p.gs)) : ChL w w' p { p with S := S' } := by
  refine ⟨⟨h.blk.same (h.rest hg (Or.inl rfl) h.d2), h.fo.keep_ (fun b hb => h.rest hg (Or.inr (Or.inr (Or.inr (Or.inr hb)))) (fun e => h.f3 (e ▸ hb))), h.nod.same (h.rest hg (Or.inr (Or.inl rfl)) h.d4), hm, h.mrk.same (h.rest hg (Or.inr (Or.inr (Or.inr (Or.inl rfl)))) (fun e => h.d6 e.symm)), h.d1, h.d2, h.d3, h.d4, h.d5, h.d6, h.f1, h.f2, h.f3, h.f4⟩, ⟨hg.os, hg.tape, hg.output, hg.size, fun b hl hn => hg.block b hl (fun e => hn (by injection e with e; exact Or.inr (Or.inr (Or.inl e))))⟩, fun b hb => Or.inl hb⟩
theorem LW.setM (h : LW w p) {M' : Int → Option Unit} (hm : MF xK w' p.gm M') (hg : w.grownBy w' (some p.gm)) : ChL w w' p { p with M := M' } := by
  refine ⟨⟨h.blk.same (h.rest hg (Or.inl rfl) h.d3), h.fo.keep_ (fun b hb => h.rest hg (Or.inr (Or.inr (Or.inr (Or.inr hb)))) (fun e => h.f4 (e ▸ hb))), h.nod.same (h.rest hg (Or.inr (Or.inl rfl)) h.d5), h.sts.same (h.rest hg (Or.inr (Or.inr (Or.inl rfl))) h.d6), hm, h.d1, h.d2, h.d3, h.d4, h.d5, h.d6, h.f1, h.f2, h.f3, h.f4⟩, ⟨hg.os, hg.tape, hg.output, hg.size, fun b hl hn => hg.block b hl (fun e => hn (by injection e with e; exact Or.inr (Or.inr (Or.inr (Or.inl e)))))⟩, fun b hb => Or.inl hb⟩
theorem LW.setF (h : LW w p) {T' : FT} (hc : ChF LFB w w' p.gf p.Ff T') : ∃ Ff', ChL w w' p { p with Ff := Ff', T := T' } := by
  obtain ⟨F', k1, k2, k3⟩ := hc
  have hin := h.inb
  have hs : ∀ b, b = p.g ∨ b = p.gn ∨ b = p.gs ∨ b = p.gm → w'.heap[b]? = w.heap[b]? ∧ ¬ F' b := fun b hb => by
    have hn : ¬ p.Ff b := by
      rcases hb with rfl | rfl | rfl | rfl
      · exact h.f1
      · exact h.f2
      · exact h.f3
      · exact h.f4
    have hl : b < w.heap.size := hin b (by
      rcases hb with e | e | e | e
      · exact Or.inl e
      · exact Or.inr (Or.inl e)
      · exact Or.inr (Or.inr (Or.inl e))
      · exact Or.inr (Or.inr (Or.inr (Or.inl e))))
    refine ⟨k2.2.2.2.2 b hl hn, fun c => ?_⟩
    rcases k3 b c with d | d
    · exact hn d
    · omega
  refine ⟨F', ⟨h.blk.same (hs _ (Or.inl rfl)).1, k1, h.nod.same (hs _ (Or.inr (Or.inl rfl))).1, h.sts.same (hs _ (Or.inr (Or.inr (Or.inl rfl)))).1, h.mrk.same (hs _ (Or.inr (Or.inr (Or.inr rfl)))).1, h.d1, h.d2, h.d3, h.d4, h.d5, h.d6, (hs _ (Or.inl rfl)).2, (hs _ (Or.inr (Or.inl rfl))).2, (hs _ (Or.inr (Or.inr (Or.inl rfl)))).2, (hs _ (Or.inr (Or.inr (Or.inr rfl)))).2⟩, Fr.of k2 (fun b hb => Or.inr (Or.inr (Or.inr (Or.inr hb)))), ?_⟩
  rintro b (e | e | e | e | e)
  · exact Or.inl (Or.inl e)
  · exact Or.inl (Or.inr (Or.inl e))
  · exact Or.inl (Or.inr (Or.inr (Or.inl e)))
  · exact Or.inl (Or.inr (Or.inr (Or.inr (Or.inl e))))
  · exact (k3 b e).imp_left (fun c => Or.inr (Or.inr (Or.inr (Or.inr c))))
theorem LW.setT (h : LW w p) (s : Nat) {z : Int} (hz : z = (s : Int)) : ChL w (w.setCell ⟨p.g, 4, none⟩ (.int .i64 z)) p { p with st := s } := by
  subst hz
  exact ⟨⟨h.blk.set_ 4 _, h.fo.keep_ (fun b hb => set_at (fun e => h.f1 (e ▸ hb))), h.nod.same (set_at (fun e => h.d1 e.symm)), h.sts.same (set_at (fun e => h.d2 e.symm)), h.mrk.same (set_at (fun e => h.d3 e.symm)), h.d1, h.d2, h.d3, h.d4, h.d5, h.d6, h.f1, h.f2, h.f3, h.f4⟩, ⟨rfl, rfl, rfl, by simp [World.setCell], fun b _ hn => set_at (fun e => hn (Or.inl e))⟩, fun b hb => Or.inl hb⟩
/-- what the walk reads of it -/
theorem LW.cells (h : LW w p) : w.cell? ⟨p.g, 0, none⟩ = some (.pointer (some ⟨p.gf, 0, none⟩)) ∧ w.cell? ⟨p.g, 1, none⟩ = some (.map (some p.gn)) ∧ w.cell? ⟨p.g, 2, none⟩ = some (.map (some p.gs)) ∧ w.cell? ⟨p.g, 3, none⟩ = some (.map (some p.gm)) ∧ w.cell? ⟨p.g, 4, none⟩ = some (.int .i64 p.st) ∧ p.g < w.heap.size :=
  ⟨h.blk.cell 0, h.blk.cell 1, h.blk.cell 2, h.blk.cell 3, h.blk.cell 4, h.blk.lt⟩
end
end Go.Proofs.YtdndafdninnjfaaGreat
/-
  The landed flow: has, parent, Steps, Nodes, New, mark.
-/
namespace Go.Proofs.YtdndafdninnjfaaGreat
open Go.RowKit

/-- what the walk wants of a body's cells, and of a reached one's -/
structure BX (X : List Value) : Prop where
  len : X.length = 13
  sizea : (Tryz.prog.info? 97).map (·.size) = some X.toArray.size
  onea : X.toArray.all (·.oneCell') = true
structure RX (X : List Value) : Prop where
  len : X.length = 14
  sizea : (Tryz.prog.info? 86).map (·.size) = some X.toArray.size
  onea : X.toArray.all (·.oneCell') = true
theorem cBd_one (p : BD) : ∀ u ∈ cBd p, u.oneCell' = true := fun u hu => by
  rw [cBd_eq] at hu
  rcases List.mem_append.1 hu with h | h
  · exact lM_one _ u h
  · rw [List.mem_singleton.1 h]; rfl
theorem cSd_one (p : RD) : ∀ u ∈ cSd p, u.oneCell' = true := fun u hu => by
  rw [cSd_eq] at hu
  rcases List.mem_append.1 hu with h | h
  · exact lM_one _ u h
  · rcases List.mem_cons.1 h with h | h
    · rw [h]; rfl
    · rw [List.mem_singleton.1 h]; rfl
theorem bx_any (p : BD) : BX (cBd p) := ⟨rfl, by kernel_rfl, all_oneCell_toArray (cBd_one p)⟩
theorem rx_any (p : RD) : RX (cSd p) := ⟨rfl, by kernel_rfl, all_oneCell_toArray (cSd_one p)⟩
/-- whom a name has as its parent, -1 if nobody -/
def parM (T : FT) (x : Int) : Int := (parO T x).getD (-1)
section
variable {w : World} {p : Wp} {x : Int}
set_option maxHeartbeats 1000000 in
set_option maxRecDepth 100000 in
theorem lfhas_any (h : LW w p) (hx : Rg x) : Calls Tryz.prog 40 #[.pointer (some ⟨p.g, 0, none⟩), .int .i64 x] w fun e w' => e = .returned (.bool (p.N x).isSome) ∧ Below w.heap.size w w' := by
  obtain ⟨c0, c1, c2, c3, c4, hg⟩ := h.cells
  have hl : (Instr.lookup 63 (.map (some p.gn)) (.int .i64 x) true).run Tryz.prog w = .ok (.tuple #[.agg (cBd ((p.N x).getD zB)).toArray, .bool (p.N x).isSome]) w := h.nod.look hx
  have HX := Lib.hid (bx_any ((p.N x).getD zB))
  obtain ⟨X, hX⟩ : ∃ X, X = cBd ((p.N x).getD zB) := ⟨_, rfl⟩
  obtain ⟨b, hb⟩ : ∃ b, b = (p.N x).isSome := ⟨_, rfl⟩
  obtain ⟨g, hge⟩ : ∃ g, g = p.g := ⟨_, rfl⟩
  obtain ⟨gn, hne⟩ : ∃ gn, gn = p.gn := ⟨_, rfl⟩
  rw [← hX] at hl HX
  rw [← hb] at hl ⊢
  rw [← hne] at hl c1
  rw [← hge] at c1 hg ⊢
  have HT : Hid ((w.alloc (.cells (cBd zB).toArray 97)).there w.heap.size 0 X.toArray.size) := Lib.hid (blk_there (Blk.new w _ _) (by rw [List.size_toArray, HX.out.len]; exact Nat.le_refl 13))
  clear h hX hb hge hne c0 c2 c3 c4
  go_enter Tryz.func40, Tryz.ntmps40
  go_wp2_with (refine wpList_store_mid rfl 97 (.tmp 5) (.tmp 14) rfl w.heap.size 0 X.toArray rfl rfl HT.out HX.out.sizea HX.out.onea ?_)
  refine fin (fun W => Below w.heap.size w W) (below_setCells _ (alloc_below _ _) (Nat.le_refl _)) ?_
  rintro W hbw
  have HB := Lib.hid hbw
  clear hbw
  go_wp2
  go_ret
  exact ⟨rfl, HB.out⟩
set_option maxHeartbeats 1000000 in
set_option maxRecDepth 100000 in
theorem lfparent_any (h : LW w p) (hx : Rg x) : Calls Tryz.prog 60 #[.pointer (some ⟨p.g, 0, none⟩), .int .i64 x] w fun e w' => e = .returned (.int .i64 (parM p.T x)) ∧ w = w' := by
  obtain ⟨c0, c1, c2, c3, c4, hg⟩ := h.cells
  have HP : Hid (Calls Tryz.prog 56 #[.pointer (some ⟨p.gf, 0, none⟩), .int .i64 x] w fun e w' => e = .returned (.tuple #[.int .i64 (parV (parO p.T x)), .bool (parO p.T x).isSome]) ∧ w = w') := Lib.hid (by
    obtain ⟨gp, gc, bl, cp, h1, _⟩ := h.fo
    exact lparent_any h1 hx)
  have hM : parM p.T x = (parO p.T x).getD (-1) := rfl
  obtain ⟨o, ho⟩ : ∃ o, o = parO p.T x := ⟨_, rfl⟩
  obtain ⟨g, hge⟩ : ∃ g, g = p.g := ⟨_, rfl⟩
  obtain ⟨gf, hfe⟩ : ∃ gf, gf = p.gf := ⟨_, rfl⟩
  rw [← ho] at HP hM
  rw [← hfe] at HP c0
  rw [← hge] at c0 hg ⊢
  rw [hM]
  clear h ho hge hfe hM c1 c2 c3 c4 hx
  go_enter Tryz.func60, Tryz.ntmps60
  go_wp2_with fail
  refine HP.out.mono ?_
  rintro e w1 ⟨rfl, rfl⟩
  cases o with
  | none =>
    go_wp2
    go_ret
    exact ⟨rfl, rfl⟩
  | some y =>
    go_wp2
    go_ret
    exact ⟨rfl, rfl⟩
set_option maxHeartbeats 1000000 in
set_option maxRecDepth 100000 in
theorem lfsteps_any (h : LW w p) : Calls Tryz.prog 10 #[.pointer (some ⟨p.g, 0, none⟩)] w fun e w' => e = .returned (.int .i64 p.st) ∧ w = w' := by
  obtain ⟨c0, c1, c2, c3, c4, hg⟩ := h.cells
  clear h
  go_enter Tryz.func10, Tryz.ntmps10
  go_wp2
  go_ret
  exact ⟨rfl, rfl⟩
set_option maxHeartbeats 1000000 in
set_option maxRecDepth 100000 in
theorem lfnodes_any (h : LW w p) (K : List Int) (hK : K.Pairwise (· < ·)) (hm : ∀ z, z ∈ K ↔ Rg z ∧ (p.N z).isSome = true) : Calls Tryz.prog 27 #[.pointer (some ⟨p.g, 0, none⟩)] w fun e w' => ∃ v, e = .returned v ∧ OwnD w' w.heap.size v K.length K ∧ Below w.heap.size w w' := by
  obtain ⟨c0, c1, c2, c3, c4, hg⟩ := h.cells
  have HKs := Lib.hid (keysY9 (some p.gn) w)
  have HSo := Lib.hid (sortedY9 h.nod K hK hm)
  clear h hK hm
  go_enter Tryz.func27, Tryz.ntmps27
  go_wp2_with fail
  refine HKs.out.mono ?_
  rintro e w0 ⟨rfl, rfl⟩
  go_wp2_with fail
  refine HSo.out.mono ?_
  rintro e w1 ⟨v, rfl, hrow, hb1⟩
  have HE := Lib.hid (And.intro hrow hb1)
  clear hrow hb1 HKs HSo
  go_wp2
  go_ret
  exact ⟨v, rfl, HE.out⟩
end
/-! mark -/
def mkS (S : Int → Option RD) (xs : List Int) (x : Int) : Option RD := if x ∈ xs then none else S x
def mkM (M : Int → Option Unit) (xs : List Int) (x : Int) : Option Unit := if x ∈ xs then some () else M x
theorem mkS_step {S : Int → Option RD} {xs : List Int} {j : Nat} {z : Int} (h : xs[j]? = some z) : mkS S (xs.take (j + 1)) = upm (mkS S (xs.take j)) z none := by
  funext y
  unfold mkS upm
  rw [List.take_add_one, h]
  by_cases c : y = z
  · rw [if_pos c, if_pos (by rw [c]; simp)]
  · rw [if_neg c]
    show _ = if y ∈ xs.take j then none else S y
    by_cases d : y ∈ xs.take j
    · rw [if_pos d, if_pos (List.mem_append_left _ d)]
    · rw [if_neg d, if_neg (fun k => (List.mem_append.1 k).elim d (fun k => c (by simpa using k)))]
theorem mkM_step {M : Int → Option Unit} {xs : List Int} {j : Nat} {z : Int} (h : xs[j]? = some z) : mkM M (xs.take (j + 1)) = upm (mkM M (xs.take j)) z (some ()) := by
  funext y
  unfold mkM upm
  rw [List.take_add_one, h]
  by_cases c : y = z
  · rw [if_pos c, if_pos (by rw [c]; simp)]
  · rw [if_neg c]
    show _ = if y ∈ xs.take j then some () else M y
    by_cases d : y ∈ xs.take j
    · rw [if_pos d, if_pos (List.mem_append_left _ d)]
    · rw [if_neg d, if_neg (fun k => (List.mem_append.1 k).elim d (fun k => c (by simpa using k)))]
def mkP (p : Wp) (xs : List Int) : Wp := { p with S := mkS p.S xs, M := mkM p.M xs }
theorem mkP_nil (p : Wp) : mkP p [] = p := by
  unfold mkP
  have h1 : mkS p.S [] = p.S := by funext x; unfold mkS; rw [if_neg (by simp)]
  have h2 : mkM p.M [] = p.M := by funext x; unfold mkM; rw [if_neg (by simp)]
  rw [h1, h2]
/-- one is marked: both steps -/
theorem LW.mark1 {w wr : World} {p : Wp} {xs : List Int} {j : Nat} {z : Int} (hch : ChL w wr p (mkP p (xs.take j))) (hz : xs[j]? = some z) (hx : Rg z) (K : List Int) (hK : ∀ y, (p.M y).isSome = true → y ∈ K) (hKl : K.length + xs.length ≤ 100000) :
    ∃ w1 w2, (∀ ty, (Builtin.delete_ #[64, 41] ty #[.map (some p.gs), .int .i64 z]).run Tryz.prog wr = .ok (.tuple #[]) w1) ∧ w1.cell? ⟨p.g, 3, none⟩ = some (.map (some p.gm)) ∧ p.g < w1.heap.size ∧ (Instr.mapUpdate 65 (.map (some p.gm)) (.int .i64 z) (.agg #[])).run Tryz.prog w1 = .ok () w2 ∧ ChL w w2 p (mkP p (xs.take (j + 1))) := by
  obtain ⟨w1, r1, m1, g1⟩ := hch.1.sts.del hx
  have k1 := hch.1.setS m1 g1
  obtain ⟨w2, r2, m2, g2⟩ := k1.1.mrk.put hx () (K ++ xs) (fun y hy => by
    unfold upm at hy
    by_cases c : y = z
    · rw [c]; exact List.mem_append_right _ (List.mem_of_getElem? hz)
    · rw [if_neg c] at hy
      have hy2 : (mkM p.M (xs.take j) y).isSome = true := hy
      unfold mkM at hy2
      by_cases d : y ∈ xs.take j
      · exact List.mem_append_right _ (List.mem_of_mem_take d)
      · rw [if_neg d] at hy2
        exact List.mem_append_left _ (hK y hy2)) (by rw [List.length_append]; exact hKl)
  have k2 := k1.1.setM m2 g2
  obtain ⟨_, _, _, c3, _, hg⟩ := k1.1.cells
  refine ⟨w1, w2, r1, c3, hg, r2, ?_⟩
  have := (hch.join k1).join k2
  unfold mkP
  rw [mkS_step hz, mkM_step hz]
  exact this
set_option maxHeartbeats 2000000 in
set_option maxRecDepth 100000 in
theorem lfmark_any {w : World} {p : Wp} (h : LW w p) {a : Option Addr} {n cap : Nat} {xs : List Int} (hn : n ≤ 20000) (hr : Row w a n xs) (ha : Aw (footL p) a n) (hx : Rgs xs) (K : List Int) (hK : ∀ y, (p.M y).isSome = true → y ∈ K) (hKl : K.length ≤ 70000) :
    Calls Tryz.prog 26 #[.pointer (some ⟨p.g, 0, none⟩), .slice a n cap] w fun e w' => e = .returned (.tuple #[]) ∧ ChL w w' p (mkP p xs) := by
  have HSt : Hid (ChL w w p (mkP p (xs.take 0))) := Lib.hid (by rw [List.take_zero, mkP_nil]; exact ChL.still h (Below.refl _ _))
  have HLen := Lib.hid hr.1
  have HRd : Hid (∀ (u : World) (j : Nat), ChL w u p (mkP p (xs.take j)) → Row u a n xs ∧ u.cell? ⟨p.g, 2, none⟩ = some (.map (some p.gs)) ∧ p.g < u.heap.size) := Lib.hid (fun u j q => ⟨row_frame hr ha q.2.1, q.1.cells.2.2.1, q.1.cells.2.2.2.2.2⟩)
  have HM : Hid (∀ (u : World) (j : Nat) (z : Int), xs[j]? = some z → ChL w u p (mkP p (xs.take j)) → ∃ w1 w2, (∀ ty, (Builtin.delete_ #[64, 41] ty #[.map (some p.gs), .int .i64 z]).run Tryz.prog u = .ok (.tuple #[]) w1) ∧ w1.cell? ⟨p.g, 3, none⟩ = some (.map (some p.gm)) ∧ p.g < w1.heap.size ∧ (Instr.mapUpdate 65 (.map (some p.gm)) (.int .i64 z) (.agg #[])).run Tryz.prog w1 = .ok () w2 ∧ ChL w w2 p (mkP p (xs.take (j + 1)))) := Lib.hid (fun u j z hz q => LW.mark1 q hz (hx z (List.mem_of_getElem? hz)) K hK (by rw [hr.1]; omega))
  have hbig := hr.2.1
  obtain ⟨g, hge⟩ : ∃ g, g = p.g := ⟨_, rfl⟩
  rw [← hge] at HRd HM ⊢
  clear h hr ha hx hK hKl hge
  go_enter Tryz.func26, Tryz.ntmps26
  go_wp2
  go_loopw [5, 8] (fun _ i wr => ∃ j : Nat, j ≤ n ∧ i = .int .i64 j ∧ ChL w wr p (mkP p (xs.take j))) (fun _ i _ => n - (ivl i).toNat)
  case atStart => exact ⟨0, by omega, rfl, HSt.out⟩
  case round =>
    clear HSt
    obtain ⟨j, hj, rfl, hch⟩ := hrel
    obtain ⟨hrw, c2, hg⟩ := HRd.out wr j hch
    have HCh := Lib.hid hch
    clear hch
    by_cases hlt : j < n
    · obtain ⟨b, off, z, rfl, hz, cz⟩ := row_at hrw hlt
      have hbl := World.block_lt_of_cell? _ _ cz
      obtain ⟨w1, w2, r1, c13, hg1, r2, hch2⟩ := HM.out wr j z hz HCh.out
      have HC2 := Lib.hid hch2
      have j0 : (0 : Int) ≤ (j : Int) := by omega
      have j1 : (j : Int) < (n : Int) := by omega
      clear hrw hz hch2 HCh
      go_wp2_with (at_builtin; refine wpList_del9 rfl (.tmp 15) (.tmp 16) 64 41 rfl _ _ rfl rfl (r1 _) ?_)
      go_roundw
      case rel => exact ⟨j + 1, by omega, by go_num, HC2.out⟩
      case measure => simp [ivl] <;> omega
    · obtain rfl : j = n := by omega
      have e0 : xs.take j = xs := List.take_of_length_le (by rw [HLen.out]; exact Nat.le_refl _)
      rw [e0] at HCh
      have j1 : ¬ (j : Int) < (j : Int) := by omega
      clear e0 hrw
      go_wp2
      go_end0
      exact ⟨rfl, HCh.out⟩
end Go.Proofs.YtdndafdninnjfaaGreat
