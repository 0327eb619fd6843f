import Derived.Test.YtnbpdffdnphbeabGreatDoorDCel
import Derived.Laws.AppendOwnNone
namespace Go.Proofs.YtnbpdffdnphbeabGreatDoor
open Go.RowKit
def Zl(l:List Bool):List Value:=l.map Value.bool
def tX(l:List Int):List Value:=l.map (Value.int .i64)
theorem yx(a:List Bool):(Zl a).length=a.length:=by simp[Zl]
theorem GO(a:List Int):(tX a).length=a.length:=by simp[tX]
theorem ZD(l:List Int)(i:Nat)(h:i<l.length):(tX l)[i]? = some (.int .i64 (l.getD i 0)):=by simp[tX,List.getD,h]
structure tD(w:World)(a:Option Addr)(l:List Int):Prop where
 cel:jR w a (tX l)
 few:l.length<=10000
theorem tD.below{w w':World}{a:Option Addr}{l:List Int}(h:tD w a l)(hb:Below w.heap.size w w'):tD w' a l:=⟨h.cel.below hb,h.few⟩
theorem tD.at{w:World}{a:Option Addr}{l:List Int}(h:tD w a l){i:Nat}(hi:i<l.length):∃g,a=some ⟨g,0,none⟩/\w.cell? ⟨g,i,none⟩=some (.int .i64 (l.getD i 0)):=h.cel.at (ZD l i hi)
structure Qz where
 has:Bs->Bool
 inp:Bs->Int
def zC2(x:Int)(m:Bs)(y:Int):Bool:=if x<y then decide (m=[60]\/m=[60,61]\/m=[33,61]) else if x=y then decide (m=[60,61]\/m=[61]\/m=[62,61]) else decide (m=[62]\/m=[62,61]\/m=[33,61])
abbrev kY(l:List Bool)(a:Int):Bool:=decide (0<=a)&&(decide (a<l.length)&&l.getD a.toNat false)
def Kc(E:Qz)(hs:List Bool)(x:zR):Bool :=
 if x.kind=1 then kY hs x.left || kY hs x.right else if x.kind=2 then kY hs x.left&&kY hs x.right else if x.kind=3 then !kY hs x.left
 else if x.kind=4 then true else if x.kind=5 then E.has x.name else if x.kind=6 then decide (E.inp x.name=1)
 else if x.kind=7 then zC2 (E.inp x.name) x.mark (if x.other=[] then x.num else E.inp x.other) else false
def KQ(E:Qz):List zR->List Bool->List Bool
 | [],hs=>hs
 | x::r,hs=>KQ E r (hs++[Kc E hs x])
def QG(E:Qz)(N:List zR):List Bool:=KQ E N []
theorem Kt(E:Qz)(N:List zR):∀hs,∃t,KQ E N hs=hs++t/\t.length=N.length:=by
 induction N with
 | nil=>intro hs;exact⟨[],by simp[KQ],rfl⟩
 | cons x r ih =>
   intro hs;obtain⟨t,h1,h2⟩:=ih (hs++[Kc E hs x]);exact⟨Kc E hs x::t,by rw[KQ,h1];simp,by simp[h2]⟩
theorem dZ(E:Qz)(N:List zR):(QG E N).length=N.length:=by
 obtain⟨t,h1,h2⟩:=Kt E N [];unfold QG;rw[h1];simpa using h2
theorem DS(E:Qz)(N M:List zR):∀hs,KQ E (N++M) hs=KQ E M (KQ E N hs):=by
 induction N with
 | nil=>intro hs;rfl
 | cons x r ih=>intro hs;rw[cd,KQ,ih,KQ]
theorem zFF(E:Qz)(N:List zR)(a:Nat)(ha:a<N.length):(QG E N).getD a false=Kc E (QG E (N.take a)) (pP N a):=by
 have e:N=N.take a++pP N a::N.drop (a+1):=by
  unfold pP;rw[List.getD,pb ha,Option.getD_some,<-pq ha,List.take_append_drop]
 have hl:(QG E (N.take a)).length=a:=by rw[dZ,cp];omega
 unfold QG
 conv=>lhs;rw[e,DS,KQ]
 obtain⟨t,h1,_⟩:=Kt E (N.drop (a+1)) (KQ E (N.take a) []++[Kc E (KQ E (N.take a) []) (pP N a)]);have hl2:(KQ E (N.take a) []).length=a:=hl;rw[h1,pr,List.getD,li (by omega),hl2,dz];rfl
theorem zAT(E:Qz)(N:List zR)(a c:Nat)(hc:c<a)(ha:a<=N.length):(QG E (N.take a)).getD c false=(QG E N).getD c false:=by
 conv=>rhs;rw[<-List.take_append_drop a N]
 unfold QG;rw[DS];obtain⟨t,h1,_⟩:=Kt E (N.drop a) (KQ E (N.take a) []);have hl:(KQ E (N.take a) []).length=a:=by have:=dZ E (N.take a);unfold QG at this;rw[this,cp];omega
 rw[h1,List.getD,List.getD,mu (by omega)]
end Go.Proofs.YtnbpdffdnphbeabGreatDoor
