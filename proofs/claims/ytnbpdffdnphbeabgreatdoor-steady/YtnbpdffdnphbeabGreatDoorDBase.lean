import Derived.Test.YtnbpdffdnphbeabGreatDoorDCel
import Derived.Laws.AppendOwnNone
namespace Go.Proofs.YtnbpdffdnphbeabGreatDoor
open Go.RowKit
def Kt(l:List Bool):List Value:=l.map Value.bool
def cQ(l:List Int):List Value:=l.map (Value.int .i64)
theorem kj(a:List Bool):(Kt a).length=a.length:=by simp[Kt]
theorem JZ(l:List Int)(i:Nat)(h:i<l.length):(cQ l)[i]? = some (.int .i64 (l.getD i 0)):=by simp[cQ,List.getD,h]
structure gJ(w:World)(a:Option Addr)(l:List Int):Prop where
 ay:kQ w a (cQ l)
 aj:l.length<=10000
theorem gJ.below{w w':World}{a:Option Addr}{l:List Int}(h:gJ w a l)(hb:Below w.heap.size w w'):gJ w' a l:=⟨h.ay.below hb,h.aj⟩
theorem gJ.at{w:World}{a:Option Addr}{l:List Int}(h:gJ w a l){i:Nat}(hi:i<l.length):∃g,a=some ⟨g,0,none⟩/\w.cell? ⟨g,i,none⟩=some (.int .i64 (l.getD i 0)):=h.ay.at (JZ l i hi)
structure Jm where
 has:Bs->Bool
 inp:Bs->Int
def Ay(x:Int)(m:Bs)(y:Int):Bool:=if x<y then decide (m=[60]\/m=[60,61]\/m=[33,61]) else if x=y then decide (m=[60,61]\/m=[61]\/m=[62,61]) else decide (m=[62]\/m=[62,61]\/m=[33,61])
abbrev jO(l:List Bool)(a:Int):Bool:=decide (0<=a)&&(decide (a<l.length)&&l.getD a.toNat false)
def Vd(E:Jm)(hs:List Bool)(x:zJ):Bool :=
 if x.kind=1 then jO hs x.left || jO hs x.right else if x.kind=2 then jO hs x.left&&jO hs x.right else if x.kind=3 then !jO hs x.left
 else if x.kind=4 then true else if x.kind=5 then E.has x.name else if x.kind=6 then decide (E.inp x.name=1)
 else if x.kind=7 then Ay (E.inp x.name) x.mark (if x.other=[] then x.num else E.inp x.other) else false
def VL(E:Jm):List zJ->List Bool->List Bool
 | [],hs=>hs
 | x::r,hs=>VL E r (hs++[Vd E hs x])
def J0(E:Jm)(N:List zJ):List Bool:=VL E N []
theorem Vw(E:Jm)(N:List zJ):∀hs,∃t,VL E N hs=hs++t/\t.length=N.length:=by
 induction N with
 | nil=>intro hs;exact⟨[],by simp[VL],rfl⟩
 | cons x r ih =>
   intro hs;obtain⟨t,h1,h2⟩:=ih (hs++[Vd E hs x]);exact⟨Vd E hs x::t,by rw[VL,h1];simp,by simp[h2]⟩
theorem gE(E:Jm)(N:List zJ):(J0 E N).length=N.length:=by
 obtain⟨t,h1,h2⟩:=Vw E N [];unfold J0;rw[h1];simpa using h2
theorem Gq(E:Jm)(N M:List zJ):∀hs,VL E (N++M) hs=VL E M (VL E N hs):=by
 induction N with
 | nil=>intro hs;rfl
 | cons x r ih=>intro hs;rw[li,VL,ih,VL]
theorem Ns(E:Jm)(N:List zJ)(a:Nat)(ha:a<N.length):(J0 E N).getD a false=Vd E (J0 E (N.take a)) (vY N a):=by
 have e:N=N.take a++vY N a::N.drop (a+1):=by
  unfold vY;rw[List.getD,pm ha,Option.getD_some,<-ph ha,List.take_append_drop]
 have hl:(J0 E (N.take a)).length=a:=by rw[gE,cq];omega
 unfold J0
 conv=>lhs;rw[e,Gq,VL]
 obtain⟨t,h1,_⟩:=Vw E (N.drop (a+1)) (VL E (N.take a) []++[Vd E (VL E (N.take a) []) (vY N a)]);have aA:(VL E (N.take a) []).length=a:=hl;rw[h1,po,List.getD,l8 (by omega),aA,Nat.sub_self];rfl
theorem RX(E:Jm)(N:List zJ)(a c:Nat)(hc:c<a)(ha:a<=N.length):(J0 E (N.take a)).getD c false=(J0 E N).getD c false:=by
 conv=>rhs;rw[<-List.take_append_drop a N]
 unfold J0;rw[Gq];obtain⟨t,h1,_⟩:=Vw E (N.drop a) (VL E (N.take a) []);have hl:(VL E (N.take a) []).length=a:=by have:=gE E (N.take a);unfold J0 at this;rw[this,cq];omega
 rw[h1,List.getD,List.getD,mj (by omega)]
end Go.Proofs.YtnbpdffdnphbeabGreatDoor
