/-
  ExtractSlots answers true for every row of steps: behind any acts on a scene, and syncs, each record has a slot of its own below the scene's room, and one that was there ahead of a sync without an error, and is behind it, has the same slot. No conditions.
-/
import Derived.Test.YtlibdcmcbinfnaaGreatMS45
set_option maxHeartbeats 100000000
set_option maxRecDepth 1000000
set_option linter.unusedVariables false
namespace Go.Proofs.YtlibdcmcbinfnaaGreat.extractSlots
open _root_.Go.Proofs.Tryz List Nat
open Go.ChangeShapes Go.WideShapes Go.ChangeAt Go.RowKit Go.Deep
theorem own:ownKnob prog.godebug=none:=oM
theorem zxX:laidOutB prog=true:=oM
section
variable {EB:World->Nat->(Nat->Prop)->XS->Prop} {XB:World->Nat->(Nat->Prop)->Sc->Prop}
theorem zzs(hX:XC XB)(hE:EC EB XB)(os:Os)(started:os.Started)(H:Type)(enc:TypeId × Value->H):
  ReturnsInHanded {} Tryz.checked os 5 .any (Rows.extractSlotsSpec.pre6 enc prog Tryz.f5 Rows.extractSlotsRow.domain false) (Rows.extractSlotsSpec.post enc prog Tryz.f5 false true false false):=by
 refine returnsInHanded_of_change (C:=Tryz.checked) own started oM func5
  (ChangeSpec.witness6 (enc:=enc) (C:=Tryz.checked) false ⟨#[],#[.slice none 0 0],[]⟩ 8 oM oM oM oM) ?_
 intro W base args ds gs before MG hW hcnd _;have hval:∀ (j:Nat) t v,Tryz.f5.params[j]? =some t->args[j]? =some v->Value.okWide prog W .any base t v:=MG;have YX:=hW;obtain⟨p,q,M7,hV,rfl,N1,XE⟩:=hW;have hA:DataW.TrodAll enc prog W 0 (λ_=>true) true Tryz.f5.params.toList args.toList ds p:=M7;rw[Tryz.params5]at hA hval;obtain⟨v0,gZ,d0,Ga,p0,q0,ET,rfl,rfl,h0,r0⟩:=trodAll_cons hA;obtain⟨rfl,rfl,rfl⟩:=trodAll_nil r0;obtain rfl:args= #[v0]:=by cases args;simp_all
 obtain⟨rfl,rfl⟩:=trodVars_none hV;obtain⟨a0,len0,cap0,rfl⟩:=okWide_slice underlying22 (hval 0 22 v0 rfl rfl);have k0:=h0;have gC:∀x∈p0,x.block<W.heap.size:=by obtain⟨m,hm⟩:=k0;exact DataW.trod_lt m _ _ _ hm
 obtain⟨As,row⟩:∃As,ARow13 W a0 len0 As:=by
  obtain⟨fuel,hf⟩:=h0;exact zkL (by simpa[Value.cells] using hf)
 clear M7 MG;refine (zml hX hE a0 len0 cap0 As W row).mono λe W' ⟨he,bel⟩=> ?_;subst he;exact⟨_,rfl,_,_,_,[],_,[],YX,trodAll_mk1 (shut_bool underlying4 _),(trodAll_cons_mk (Below.trod zxX oM (of_decide_eq_true oM) k0 bel gC) trodAll_mk0),rfl,bel.frame _,λh=>by cases h⟩
theorem over(hX:XC XB)(hE:EC EB XB):Rows.extractSlotsRow.holds Tryz.pinned (OpenSpec.ofChange Rows.extractSlotsSpec):=
 OpenClaim.holds_of_wide 5 Tryz.f5 rfl rfl rfl rfl rfl rfl rfl ⟨rfl,rfl,rfl,rfl,rfl⟩ rfl rfl rfl rfl rfl oM func5 zzr
  (of_decide_eq_true oM) (by unfold Func.isWrapper;first | (rw[if_pos (by decide+kernel)];kernel_rfl) | (rw[if_neg (by decide+kernel)];exact⟨rfl,rfl⟩))
  (λos started H enc _=>zzs hX hE os started H enc)
end
end Go.Proofs.YtlibdcmcbinfnaaGreat.extractSlots
namespace Go.Proofs.YtlibdcmcbinfnaaGreat
open _root_.Go.Proofs.Tryz List Nat
theorem extractSlots_holds:Rows.ExtractSlotsSaid:=extractSlots.over xc_holds (ec_holds xc_holds fwe_holds)
#print axioms extractSlots_holds
end Go.Proofs.YtlibdcmcbinfnaaGreat
