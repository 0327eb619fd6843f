import Derived.Test.YtnbpdffdnphbeabGreatDoorDCel
import Derived.Laws.AppendOwnNone
namespace Go.Proofs.YtnbpdffdnphbeabGreatDoor
open Go.RowKit
def iU(l:List Bool):List Value:=l.map Value.bool
def tT(l:List Int):List Value:=l.map (Value.int .i64)
theorem G0(a:List Bool):(iU a).length=a.length:=by simp[iU]
theorem FM(a:List Int):(tT a).length=a.length:=by simp[tT]
theorem Zc(l:List Int)(i:Nat)(h:i<l.length):(tT l)[i]? = some (.int .i64 (l.getD i 0)):=by simp[tT,List.getD,h]
structure jV(w:World)(a:Option Addr)(l:List Int):Prop where
 cel:kS w a (tT l)
 few:l.length<=10000
theorem jV.below{w w':World}{a:Option Addr}{l:List Int}(h:jV w a l)(hb:Below w.heap.size w w'):jV w' a l:=⟨h.cel.below hb,h.few⟩
theorem jV.at{w:World}{a:Option Addr}{l:List Int}(h:jV w a l){i:Nat}(hi:i<l.length):∃g,a=some ⟨g,0,none⟩/\w.cell? ⟨g,i,none⟩=some (.int .i64 (l.getD i 0)):=h.cel.at (Zc l i hi)
structure XU where
 has:Bs->Bool
 inp:Bs->Int
def zAA(x:Int)(m:Bs)(y:Int):Bool:=if x<y then decide (m=[60]\/m=[60,61]\/m=[33,61]) else if x=y then decide (m=[60,61]\/m=[61]\/m=[62,61]) else decide (m=[62]\/m=[62,61]\/m=[33,61])
abbrev kP(l:List Bool)(a:Int):Bool:=decide (0<=a)&&(decide (a<l.length)&&l.getD a.toNat false)
def J5(E:XU)(hs:List Bool)(x:zT):Bool :=
 if x.kind=1 then kP hs x.left || kP hs x.right else if x.kind=2 then kP hs x.left&&kP hs x.right else if x.kind=3 then !kP hs x.left
 else if x.kind=4 then true else if x.kind=5 then E.has x.name else if x.kind=6 then decide (E.inp x.name=1)
 else if x.kind=7 then zAA (E.inp x.name) x.mark (if x.other=[] then x.num else E.inp x.other) else false
def Ku(E:XU):List zT->List Bool->List Bool
 | [],hs=>hs
 | x::r,hs=>Ku E r (hs++[J5 E hs x])
def Qf(E:XU)(N:List zT):List Bool:=Ku E N []
theorem JO(E:XU)(N:List zT):∀hs,∃t,Ku E N hs=hs++t/\t.length=N.length:=by
 induction N with
 | nil=>intro hs;exact⟨[],by simp[Ku],rfl⟩
 | cons x r ih =>
   intro hs;obtain⟨t,h1,h2⟩:=ih (hs++[J5 E hs x]);exact⟨J5 E hs x::t,by rw[Ku,h1];simp,by simp[h2]⟩
theorem dN(E:XU)(N:List zT):(Qf E N).length=N.length:=by
 obtain⟨t,h1,h2⟩:=JO E N [];unfold Qf;rw[h1];simpa using h2
theorem Dn(E:XU)(N M:List zT):∀hs,Ku E (N++M) hs=Ku E M (Ku E N hs):=by
 induction N with
 | nil=>intro hs;rfl
 | cons x r ih=>intro hs;rw[cd,Ku,ih,Ku]
theorem zDR(E:XU)(N:List zT)(a:Nat)(ha:a<N.length):(Qf E N).getD a false=J5 E (Qf E (N.take a)) (pO N a):=by
 have e:N=N.take a++pO N a::N.drop (a+1):=by
  unfold pO;rw[List.getD,p9 ha,Option.getD_some,<-pm ha,List.take_append_drop]
 have hl:(Qf E (N.take a)).length=a:=by rw[dN,cg];omega
 unfold Qf
 conv=>lhs;rw[e,Dn,Ku]
 obtain⟨t,h1,_⟩:=JO E (N.drop (a+1)) (Ku E (N.take a) []++[J5 E (Ku E (N.take a) []) (pO N a)]);have hl2:(Ku E (N.take a) []).length=a:=hl;rw[h1,pr,List.getD,ld (by omega),hl2,ff];rfl
theorem kj(E:XU)(N:List zT)(a c:Nat)(hc:c<a)(ha:a<=N.length):(Qf E (N.take a)).getD c false=(Qf E N).getD c false:=by
 conv=>rhs;rw[<-List.take_append_drop a N]
 unfold Qf;rw[Dn];obtain⟨t,h1,_⟩:=JO E (N.drop a) (Ku E (N.take a) []);have hl:(Ku E (N.take a) []).length=a:=by have:=dN E (N.take a);unfold Qf at this;rw[this,cg];omega
 rw[h1,List.getD,List.getD,mt (by omega)]
end Go.Proofs.YtnbpdffdnphbeabGreatDoor
