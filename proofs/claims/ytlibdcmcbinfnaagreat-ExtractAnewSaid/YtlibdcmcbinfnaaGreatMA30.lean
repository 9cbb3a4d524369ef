/- Lemmas. -/
import Derived.Test.YtlibdcmcbinfnaaGreatMA29
set_option maxHeartbeats 100000000
set_option maxRecDepth 1000000
namespace Go.Proofs.YtlibdcmcbinfnaaGreat
open _root_.Go.Proofs.Tryz List Nat
open Go.RowKit
theorem zbi(w:World):Bw w w.drew:=⟨rfl,rfl,rfl,Nat.le_refl _,λ_ _=>rfl⟩
def cFs(s:Stt):List Value:=[.int .i64 (s.wo 0),.int .i64 (s.wo 1),.int .i64 (s.wo 2),.int .i64 (s.wo 3),.int .i64 (s.wo 4),.int .i64 (s.wo 5),.int .i64 (s.wo 6),.int .i64 (s.wo 7),.int .i64 (s.wo 8),.int .i64 (s.wo 9),.int .i64 (s.wo 10),.int .i64 (s.wo 11),.bool s.sh]
def ChR(FB:World->Nat->(Nat->Prop)->FD->Prop)(w w':World)(g:Nat)(F:Nat->Prop)(D:FD):Prop:=∃F',FB w' g F' D/\Fr w w' F/\∀b,F' b->F b
end Go.Proofs.YtlibdcmcbinfnaaGreat
