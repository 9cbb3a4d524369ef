/-
  The landed forest answers as the bundles of layer 9 say.
-/
import Derived.Test.YtbddpbfkobdhoaaLfoJ
namespace Go.Proofs.Ytbddpbfkobdhoaa
open Go.RowKit

set_option maxHeartbeats 1000000 in
set_option maxRecDepth 100000 in
theorem nunder_any (w : World) (a : Option Addr) (n cap : Nat) : Calls Try.prog 16 #[.pointer none, .slice a n cap] w fun e w' => e = .returned (.slice none 0 0) ∧ w = w' := by
  go_enter Try.func16, Try.ntmps16
  go_wp2
  go_step3
  go_wp2
  rw [Exit.noGoto_ret]
  go_ret
  exact ⟨rfl, rfl⟩
theorem fn_holds : FN where
  parent w := (nparent_any w).mono fun _ _ q => ⟨0, q.1, q.2 ▸ Below.refl _ _⟩
  set w := (nset_any w).mono fun _ _ q => ⟨q.1, q.2 ▸ Below.refl _ _⟩
  free w a n cap _ _ := (nfree_any w a n cap).mono fun _ _ q => ⟨q.1, q.2 ▸ Below.refl _ _⟩
  depth w := (ndepth_any w).mono fun _ _ q => ⟨q.1, q.2 ▸ Below.refl _ _⟩
  drop w := (ndrop_any w).mono fun _ _ q => ⟨none, 0, q.1, q.2 ▸ Below.refl _ _⟩
  children w := (nchildren_any w).mono fun _ _ q => ⟨none, 0, q.1, q.2 ▸ Below.refl _ _⟩
  above w := (nabove_any w).mono fun _ _ q => ⟨none, 0, q.1, q.2 ▸ Below.refl _ _⟩
  under w a n cap _ _ := (nunder_any w a n cap).mono fun _ _ q => ⟨none, 0, q.1, q.2 ▸ Below.refl _ _⟩
theorem fc_holds : FC LFB where
  keep_ _ _ _ _ _ h he := h.keep_ he
  inb _ _ _ _ h := h.inb
  rng _ _ _ _ h := by
    obtain ⟨gp, gc, bl, cp, h1, _⟩ := h
    exact h1.rng
  new w := lfnew_any w
  set _ _ _ _ _ _ hW hL h hc hp := lset_any h hW hL hc hp
  free _ _ _ _ _ _ _ _ hW hL h hn hr ha hx := lfree_any h hW hL hn hr ha hx
  drop _ _ _ _ _ hW hL h hx := ldrop_any h hW hL hx
  parent _ _ _ _ _ _ _ h hx := by
    obtain ⟨gp, gc, bl, cp, h1, _⟩ := h
    exact (lparent_any h1 hx).mono fun _ _ q => ⟨q.1, q.2 ▸ Below.refl _ _⟩
  children _ _ _ _ _ _ hL h hx := by
    obtain ⟨gp, gc, bl, cp, h1, _⟩ := h
    exact (lchildren_any h1 hL hx).mono fun _ _ ⟨v, e, k1, k2⟩ => ⟨v, e, LRes.of9 k1 (Nat.le_refl _), k2⟩
  above _ _ _ _ _ hW hL h hx := by
    obtain ⟨gp, gc, bl, cp, h1, _⟩ := h
    exact labove_any h1 hW hL hx
  under _ _ _ _ _ _ _ _ hW hL h hn hr _ hx := by
    obtain ⟨gp, gc, bl, cp, h1, _⟩ := h
    exact lunder_any h1 hW hL hn hr hx
  depth _ _ _ _ _ hW hL h hx := by
    obtain ⟨gp, gc, bl, cp, h1, _⟩ := h
    exact ldepth_any h1 hW hL hx

end Go.Proofs.Ytbddpbfkobdhoaa
