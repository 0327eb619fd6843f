import Derived.Test.YtnbpdffdnphbeabGreatDoorDCel
import Derived.Laws.AppendOwnNone
namespace Go.Proofs.YtnbpdffdnphbeabGreatDoor
open Go.RowKit
def wF(l:List Bool):List Value:=l.map Value.bool
def tQ(l:List Int):List Value:=l.map (Value.int .i64)
theorem GM(a:List Bool):(wF a).length=a.length:=by simp[wF]
theorem Gl(a:List Int):(tQ a).length=a.length:=by simp[tQ]
theorem Zm(l:List Int)(i:Nat)(h:i<l.length):(tQ l)[i]? = some (.int .i64 (l.getD i 0)):=by simp[tQ,List.getD,h]
structure jT(w:World)(a:Option Addr)(l:List Int):Prop where
 cel:tZ w a (tQ l)
 few:l.length<=10000
theorem jT.below{w w':World}{a:Option Addr}{l:List Int}(h:jT w a l)(hb:Below w.heap.size w w'):jT w' a l:=⟨h.cel.below hb,h.few⟩
theorem jT.at{w:World}{a:Option Addr}{l:List Int}(h:jT w a l){i:Nat}(hi:i<l.length):∃g,a=some ⟨g,0,none⟩/\w.cell? ⟨g,i,none⟩=some (.int .i64 (l.getD i 0)):=h.cel.at (Zm l i hi)
structure Qe where
 has:Bs->Bool
 inp:Bs->Int
def zB4(x:Int)(m:Bs)(y:Int):Bool:=if x<y then decide (m=[60]\/m=[60,61]\/m=[33,61]) else if x=y then decide (m=[60,61]\/m=[61]\/m=[62,61]) else decide (m=[62]\/m=[62,61]\/m=[33,61])
abbrev kS(l:List Bool)(a:Int):Bool:=decide (0<=a)&&(decide (a<l.length)&&l.getD a.toNat false)
def JB(E:Qe)(hs:List Bool)(x:zT):Bool :=
 if x.kind=1 then kS hs x.left || kS hs x.right else if x.kind=2 then kS hs x.left&&kS hs x.right else if x.kind=3 then !kS hs x.left
 else if x.kind=4 then true else if x.kind=5 then E.has x.name else if x.kind=6 then decide (E.inp x.name=1)
 else if x.kind=7 then zB4 (E.inp x.name) x.mark (if x.other=[] then x.num else E.inp x.other) else false
def K0(E:Qe):List zT->List Bool->List Bool
 | [],hs=>hs
 | x::r,hs=>K0 E r (hs++[JB E hs x])
def Qp(E:Qe)(N:List zT):List Bool:=K0 E N []
theorem JT(E:Qe)(N:List zT):∀hs,∃t,K0 E N hs=hs++t/\t.length=N.length:=by
 induction N with
 | nil=>intro hs;exact⟨[],by simp[K0],rfl⟩
 | cons x r ih =>
   intro hs;obtain⟨t,h1,h2⟩:=ih (hs++[JB E hs x]);exact⟨JB E hs x::t,by rw[K0,h1];simp,by simp[h2]⟩
theorem fA(E:Qe)(N:List zT):(Qp E N).length=N.length:=by
 obtain⟨t,h1,h2⟩:=JT E N [];unfold Qp;rw[h1];simpa using h2
theorem D5(E:Qe)(N M:List zT):∀hs,K0 E (N++M) hs=K0 E M (K0 E N hs):=by
 induction N with
 | nil=>intro hs;rfl
 | cons x r ih=>intro hs;rw[cf,K0,ih,K0]
theorem zEQ(E:Qe)(N:List zT)(a:Nat)(ha:a<N.length):(Qp E N).getD a false=JB E (Qp E (N.take a)) (pM N a):=by
 have e:N=N.take a++pM N a::N.drop (a+1):=by
  unfold pM;rw[List.getD,pb ha,Option.getD_some,<-po ha,List.take_append_drop]
 have hl:(Qp E (N.take a)).length=a:=by rw[fA,cd];omega
 unfold Qp
 conv=>lhs;rw[e,D5,K0]
 obtain⟨t,h1,_⟩:=JT E (N.drop (a+1)) (K0 E (N.take a) []++[JB E (K0 E (N.take a) []) (pM N a)]);have hl2:(K0 E (N.take a) []).length=a:=hl;rw[h1,pt,List.getD,lj (by omega),hl2,fm];rfl
theorem jw(E:Qe)(N:List zT)(a c:Nat)(hc:c<a)(ha:a<=N.length):(Qp E (N.take a)).getD c false=(Qp E N).getD c false:=by
 conv=>rhs;rw[<-List.take_append_drop a N]
 unfold Qp;rw[D5];obtain⟨t,h1,_⟩:=JT E (N.drop a) (K0 E (N.take a) []);have hl:(K0 E (N.take a) []).length=a:=by have:=fA E (N.take a);unfold Qp at this;rw[this,cd];omega
 rw[h1,List.getD,List.getD,ms (by omega)]
end Go.Proofs.YtnbpdffdnphbeabGreatDoor
