/-
  ExtractAnew answers true for every row of steps: behind any acts on a scene, and syncs, a sync's error, and the records behind it, are those of a new extract of the same scene, and a sync behind touches nobody and tells the same. No conditions.
-/
import Derived.Test.YtlibdcmcbinfnaaGreatMA44
set_option maxHeartbeats 100000000
set_option maxRecDepth 1000000
set_option linter.unusedVariables false
namespace Go.Proofs.YtlibdcmcbinfnaaGreat.extractAnew
open _root_.Go.Proofs.Tryz List Nat
open Go.ChangeShapes Go.WideShapes Go.ChangeAt Go.RowKit Go.Deep
theorem own:ownKnob prog.godebug=none:=oM
theorem zx6:laidOutB prog=true:=oM
section
variable {EB:World->Nat->(Nat->Prop)->XS->Prop} {XB:World->Nat->(Nat->Prop)->Sc->Prop}
theorem zzz(hX:XC XB)(hE:EC EB XB)(os:Os)(started:os.Started)(H:Type)(enc:TypeId × Value->H):
  ReturnsInHanded {} Tryz.checked os 4 .any (Rows.extractAnewSpec.pre6 enc prog Tryz.f4 Rows.extractAnewRow.domain false) (Rows.extractAnewSpec.post enc prog Tryz.f4 false true false false):=by
 refine returnsInHanded_of_change (C:=Tryz.checked) own started oM func4
  (ChangeSpec.witness6 (enc:=enc) (C:=Tryz.checked) false ⟨#[],#[.slice none 0 0],[]⟩ 8 oM oM oM oM) ?_
 intro W base args ds gs before Zw hW hcnd _;have hval:∀ (j:Nat) t v,Tryz.f4.params[j]? =some t->args[j]? =some v->Value.okWide prog W .any base t v:=Zw;have kY:=hW;obtain⟨p,q,JB,hV,rfl,Ek,DJ⟩:=hW;have hA:DataW.TrodAll enc prog W 0 (λ_=>true) true Tryz.f4.params.toList args.toList ds p:=JB;rw[Tryz.params4]at hA hval;obtain⟨v0,GR,d0,GU,p0,q0,NC,rfl,rfl,h0,r0⟩:=trodAll_cons hA;obtain⟨rfl,rfl,rfl⟩:=trodAll_nil r0;obtain rfl:args= #[v0]:=by cases args;simp_all
 obtain⟨rfl,rfl⟩:=trodVars_none hV;obtain⟨a0,len0,cap0,rfl⟩:=okWide_slice underlying22 (hval 0 22 v0 rfl rfl);have k0:=h0;have EM:∀x∈p0,x.block<W.heap.size:=by obtain⟨m,hm⟩:=k0;exact DataW.trod_lt m _ _ _ hm
 obtain⟨As,row⟩:∃As,ARow13 W a0 len0 As:=by
  obtain⟨fuel,hf⟩:=h0;exact zkR (by simpa[Value.cells] using hf)
 clear JB Zw;refine (zo7 hX hE a0 len0 cap0 As W row).mono λe W' ⟨he,bel⟩=> ?_;subst he;exact⟨_,rfl,_,_,_,[],_,[],kY,trodAll_mk1 (shut_bool underlying4 _),(trodAll_cons_mk (Below.trod zx6 oM (of_decide_eq_true oM) k0 bel EM) trodAll_mk0),rfl,bel.frame _,λh=>by cases h⟩
theorem over(hX:XC XB)(hE:EC EB XB):Rows.extractAnewRow.holds Tryz.pinned (OpenSpec.ofChange Rows.extractAnewSpec):=
 OpenClaim.holds_of_wide 4 Tryz.f4 rfl rfl rfl rfl rfl rfl rfl ⟨rfl,rfl,rfl,rfl,rfl⟩ rfl rfl rfl rfl rfl oM func4 zzy
  (of_decide_eq_true oM) (by unfold Func.isWrapper;first | (rw[if_pos (by decide+kernel)];kernel_rfl) | (rw[if_neg (by decide+kernel)];exact⟨rfl,rfl⟩))
  (λos started H enc _=>zzz hX hE os started H enc)
end
end Go.Proofs.YtlibdcmcbinfnaaGreat.extractAnew
namespace Go.Proofs.YtlibdcmcbinfnaaGreat
open _root_.Go.Proofs.Tryz List Nat
theorem extractAnew_holds:Rows.ExtractAnewSaid:=extractAnew.over xc_holds (ec_holds xc_holds fwe_holds)
#print axioms extractAnew_holds
end Go.Proofs.YtlibdcmcbinfnaaGreat
