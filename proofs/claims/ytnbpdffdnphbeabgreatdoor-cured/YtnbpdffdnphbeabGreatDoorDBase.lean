import Derived.Test.YtnbpdffdnphbeabGreatDoorDCel
import Derived.Laws.AppendOwnNone
namespace Go.Proofs.YtnbpdffdnphbeabGreatDoor
open Go.RowKit
variable{zJP:List Bs}{a:Option Addr}{w' w:World}
structure ZG where
 kind:Int
 a:Int
 b:Int
 mark:Bs
 n:Int
def zBB(w:World)(b:Nat)(zJP:List Bs):Prop:=∃na nc,w.cell? ⟨b,1,none⟩=some (.slice na zJP.length nc)/\Zl w na zJP
theorem zBB.below{b:Nat}(h:zBB w b zJP)(hb:Below w.heap.size w w'):zBB w' b zJP:=by
 obtain⟨na,nc,h1,h2⟩:=h;exact⟨na,nc,by rw[hb.cell (p:=⟨b,1,none⟩) (zY h1)];exact h1,h2.keepB hb (tg _)⟩
theorem zBB.lt{b:Nat}(h:zBB w b zJP):b<w.heap.size:=by
 obtain⟨na,nc,h1,h2⟩:=h;exact zY h1
theorem Zl.keeps{B R:Nat}(h:Zl w a zJP)(hk:zB B R w w')(hB:w.heap.size<=B)(zJZ:∀g,a=some ⟨g,0,none⟩->g≠R):Zl w' a zJP :=
 ⟨fun h0=>let ⟨g,e,p⟩:=h.blk h0;⟨g,e,fun j hj=>by rw[hk.cell (p:=⟨g,j,none⟩) (tm (zY (p j hj)) hB) (zJZ g e)];exact p j hj⟩,h.few⟩
def cLt:Bs:=[60,32,60,61,32,33,61]
def cEq:Bs:=[60,61,32,61,32,62,61]
def cGt:Bs:=[62,32,62,61,32,33,61]
def zJE(x:Int)(m:Bs)(y:Int):Bool:=if x<y then jO cLt m else if x=y then jO cEq m else jO cGt m
def QQ(l:List Bool):List Value:=l.map Value.bool
def pU(l:List Int):List Value:=l.map (Value.int .i64)
theorem Gz(a:List Bool):(QQ a).length=a.length:=by simp[QQ]
theorem Q7(l:List Int)(i:Nat)(h:i<l.length):(pU l)[i]? = some (.int .i64 (l.getD i 0)):=by simp[pU,List.getD,h]
structure lR(w:World)(a:Option Addr)(l:List Int):Prop where
 cel:jQ w a (pU l)
 few:l.length<=10000
theorem lR.below{l:List Int}(h:lR w a l)(hb:Below w.heap.size w w'):lR w' a l:=⟨h.cel.below hb,h.few⟩
theorem lR.at{l:List Int}(h:lR w a l){i:Nat}(hi:i<l.length):∃g,a=some ⟨g,0,none⟩/\w.cell? ⟨g,i,none⟩=some (.int .i64 (l.getD i 0)):=h.cel.at (Q7 l i hi)
abbrev zBT(vs:List Int)(a:Int):Prop:=0<=a/\a<vs.length
abbrev zAS(vs:List Int)(a:Int):Int:=vs.getD a.toNat 0
def zIZ(vs:List Int)(s:ZG):Bool:=if s.kind=0 then true else if s.kind=1 then decide (zAS vs s.a=1) else if s.kind=2 then zJE (zAS vs s.a) s.mark s.n else zJE (zAS vs s.a) s.mark (zAS vs s.b)
def Qn(vs:List Int)(s:ZG)(st:List Bool):List Bool :=
 if s.kind<4 then st++[zIZ vs s]
 else if s.kind=4 then st.dropLast++[!st.getLastD false]
 else if s.kind=5 then st.dropLast.dropLast++[st.dropLast.getLastD false&&st.getLastD false]
 else st.dropLast.dropLast++[st.dropLast.getLastD false || st.getLastD false]
def yu(vs:List Int)(s:ZG)(st:List Bool):Prop :=
 0<=s.kind/\(s.kind=1->zBT vs s.a)/\(s.kind=2->zBT vs s.a)/\(s.kind=3->zBT vs s.a/\zBT vs s.b)/\(s.kind=4->1<=st.length)/\(5<=s.kind->2<=st.length)
def DR(vs:List Int):List ZG->List Bool->List Bool
 | [],st=>st
 | s::r,st=>DR vs r (Qn vs s st)
def xq(vs:List Int):List ZG->List Bool->Prop
 | [],_=>True
 | s::r,st=>yu vs s st/\xq vs r (Qn vs s st)
structure Ym where
 has:Bs->Bool
 inp:Bs->Int
def zAG(x:Int)(m:Bs)(y:Int):Bool:=if x<y then decide (m=[60]\/m=[60,61]\/m=[33,61]) else if x=y then decide (m=[60,61]\/m=[61]\/m=[62,61]) else decide (m=[62]\/m=[62,61]\/m=[33,61])
abbrev kV(l:List Bool)(a:Int):Bool:=decide (0<=a)&&(decide (a<l.length)&&l.getD a.toNat false)
def J2(E:Ym)(hs:List Bool)(x:zN):Bool :=
 if x.kind=1 then kV hs x.left || kV hs x.right else if x.kind=2 then kV hs x.left&&kV hs x.right else if x.kind=3 then !kV hs x.left
 else if x.kind=4 then true else if x.kind=5 then E.has x.name else if x.kind=6 then decide (E.inp x.name=1)
 else if x.kind=7 then zAG (E.inp x.name) x.mark (if x.other=[] then x.num else E.inp x.other) else false
def Kk(E:Ym):List zN->List Bool->List Bool
 | [],hs=>hs
 | x::r,hs=>Kk E r (hs++[J2 E hs x])
def XS(E:Ym)(N:List zN):List Bool:=Kk E N []
theorem JM(E:Ym)(N:List zN):∀hs,∃t,Kk E N hs=hs++t/\t.length=N.length:=by
 induction N with
 | nil=>intro hs;exact⟨[],by simp[Kk],rfl⟩
 | cons x r ih =>
   intro hs;obtain⟨t,h1,h2⟩:=ih (hs++[J2 E hs x]);exact⟨J2 E hs x::t,by rw[Kk,h1];simp,by simp[h2]⟩
theorem dA(E:Ym)(N:List zN):(XS E N).length=N.length:=by
 obtain⟨t,h1,h2⟩:=JM E N [];unfold XS;rw[h1];simpa using h2
theorem Dc(E:Ym)(N M:List zN):∀hs,Kk E (N++M) hs=Kk E M (Kk E N hs):=by
 induction N with
 | nil=>intro hs;rfl
 | cons x r ih=>intro hs;rw[my,Kk,ih,Kk]
theorem zEC(E:Ym)(N:List zN)(a:Nat)(ha:a<N.length):(XS E N).getD a false=J2 E (XS E (N.take a)) (qP N a):=by
 have e:N=N.take a++qP N a::N.drop (a+1):=by
  unfold qP;rw[List.getD,pw ha,Option.getD_some,<-pi ha,List.take_append_drop]
 have hl:(XS E (N.take a)).length=a:=by rw[dA,cb];omega
 unfold XS
 conv=>lhs;rw[e,Dc,Kk]
 obtain⟨t,h1,_⟩:=JM E (N.drop (a+1)) (Kk E (N.take a) []++[J2 E (Kk E (N.take a) []) (qP N a)]);have hl2:(Kk E (N.take a) []).length=a:=hl;rw[h1,pj,List.getD,mq (by omega),hl2,Nat.sub_self];rfl
theorem j3(E:Ym)(N:List zN)(a c:Nat)(hc:c<a)(ha:a<=N.length):(XS E (N.take a)).getD c false=(XS E N).getD c false:=by
 conv=>rhs;rw[<-List.take_append_drop a N]
 unfold XS;rw[Dc];obtain⟨t,h1,_⟩:=JM E (N.drop a) (Kk E (N.take a) []);have hl:(Kk E (N.take a) []).length=a:=by have:=dA E (N.take a);unfold XS at this;rw[this,cb];omega
 rw[h1,List.getD,List.getD,po (by omega)]
def zJL(zJP:List Bs)(vs:List Int)(E:Ym)(x:zN):Prop :=
 (x.kind=5->zBT vs (zJ zJP x.name)/\decide (zAS vs (zJ zJP x.name)=1)=E.has x.name) /\
 (x.kind=6->zBT vs (zJ zJP x.name)/\zAS vs (zJ zJP x.name)=E.inp x.name) /\
 (x.kind=7->zBT vs (zJ zJP x.name)/\zAS vs (zJ zJP x.name)=E.inp x.name/\(x.other≠[]->zBT vs (zJ zJP x.other)/\zAS vs (zJ zJP x.other)=E.inp x.other))
def zB5(vs:List Int)(l:List ZG)(v:Bool):Prop:=∀st rest,(xq vs rest (st++[v])->xq vs (l++rest) st)/\DR vs (l++rest) st=DR vs rest (st++[v])
theorem zB5.one{vs:List Int}{s:ZG}{v:Bool}(h:∀st,yu vs s st/\Qn vs s st=st++[v]):zB5 vs [s] v:=fun st rest=>by
 obtain⟨h1,h2⟩:=h st;exact⟨fun h3=>⟨h1,by rw[h2];exact h3⟩,by show DR vs rest (Qn vs s st)=_;rw[h2]⟩
theorem zB5.neg{vs:List Int}{l:List ZG}{v:Bool}(h:zB5 vs l v):zB5 vs (l++[⟨4,0,0,[],0⟩]) (!v):=fun st rest=>by
 have h1:=h st (⟨4,0,0,[],0⟩::rest);have e:Qn vs ⟨4,0,0,[],0⟩ (st++[v])=st++[!v]:=by simp[Qn]
 rw[pj];refine⟨fun h3=>h1.1 ⟨⟨by simp,by simp,by simp,by simp,by simp,by simp⟩,by rw[e];exact h3⟩,?_⟩;show DR vs (l++⟨4,0,0,[],0⟩::rest) st=_;rw[h1.2,DR,e]
end Go.Proofs.YtnbpdffdnphbeabGreatDoor
