import Derived.Test.YtnbpdffdnphbeabGreatDoorDCel
import Derived.Laws.AppendOwnNone
namespace Go.Proofs.YtnbpdffdnphbeabGreatDoor
open Go.RowKit
variable{zE6:List Bs}{a:Option Addr}{w w':World}
structure eU where
 kind:Int
 a:Int
 b:Int
 mark:Bs
 n:Int
def GL(w:World)(b:Nat)(zE6:List Bs):Prop:=∃na nc,w.cell? ⟨b,1,none⟩=some (.slice na zE6.length nc)/\aV w na zE6
theorem GL.below{b:Nat}(h:GL w b zE6)(hb:Below w.heap.size w w'):GL w' b zE6:=by
 obtain⟨na,nc,h1,h2⟩:=h;exact⟨na,nc,by rw[hb.cell (p:=⟨b,1,none⟩) (yO h1)];exact h1,h2.keepB hb (j1 _)⟩
theorem GL.lt{b:Nat}(h:GL w b zE6):b<w.heap.size:=by
 obtain⟨na,nc,h1,h2⟩:=h;exact yO h1
theorem aV.keeps{B R:Nat}(h:aV w a zE6)(hk:zB B R w w')(hB:w.heap.size<=B)(zEB:∀g,a=some ⟨g,0,none⟩->g≠R):aV w' a zE6 :=
 ⟨fun h0=>let ⟨g,e,p⟩:=h.blk h0;⟨g,e,fun j hj=>by rw[hk.cell (p:=⟨g,j,none⟩) (t8 (yO (p j hj)) hB) (zEB g e)];exact p j hj⟩,h.few⟩
def cLt:Bs:=[60,32,60,61,32,33,61]
def cEq:Bs:=[60,61,32,61,32,62,61]
def cGt:Bs:=[62,32,62,61,32,33,61]
def zDP(x:Int)(m:Bs)(y:Int):Bool:=if x<y then jN cLt m else if x=y then jN cEq m else jN cGt m
def sK(l:List Bool):List Value:=l.map Value.bool
def lX(l:List Int):List Value:=l.map (Value.int .i64)
theorem Ci(a:List Bool):(sK a).length=a.length:=by simp[sK]
theorem BA(a:List Int):(lX a).length=a.length:=by simp[lX]
theorem aF(l:List Int)(i:Nat)(h:i<l.length):(lX l)[i]? = some (.int .i64 (l.getD i 0)):=by simp[lX,List.getD,h]
structure tF(w:World)(a:Option Addr)(l:List Int):Prop where
 cel:bQ w a (lX l)
 few:l.length<=10000
theorem tF.below{l:List Int}(h:tF w a l)(hb:Below w.heap.size w w'):tF w' a l:=⟨h.cel.below hb,h.few⟩
theorem tF.at{l:List Int}(h:tF w a l){i:Nat}(hi:i<l.length):∃g,a=some ⟨g,0,none⟩/\w.cell? ⟨g,i,none⟩=some (.int .i64 (l.getD i 0)):=h.cel.at (aF l i hi)
abbrev inV(vs:List Int)(a:Int):Prop:=0<=a/\a<vs.length
abbrev atV(vs:List Int)(a:Int):Int:=vs.getD a.toNat 0
def zD2(vs:List Int)(s:eU):Bool:=if s.kind=0 then true else if s.kind=1 then decide (atV vs s.a=1) else if s.kind=2 then zDP (atV vs s.a) s.mark s.n else zDP (atV vs s.a) s.mark (atV vs s.b)
def Yy(vs:List Int)(s:eU)(st:List Bool):List Bool :=
 if s.kind<4 then st++[zD2 vs s]
 else if s.kind=4 then st.dropLast++[!st.getLastD false]
 else if s.kind=5 then st.dropLast.dropLast++[st.dropLast.getLastD false&&st.getLastD false]
 else st.dropLast.dropLast++[st.dropLast.getLastD false || st.getLastD false]
def Da(vs:List Int)(s:eU)(st:List Bool):Prop :=
 0<=s.kind/\(s.kind=1->inV vs s.a)/\(s.kind=2->inV vs s.a)/\(s.kind=3->inV vs s.a/\inV vs s.b)/\(s.kind=4->1<=st.length)/\(5<=s.kind->2<=st.length)
def UW(vs:List Int):List eU->List Bool->List Bool
 | [],st=>st
 | s::r,st=>UW vs r (Yy vs s st)
def Dh(vs:List Int):List eU->List Bool->Prop
 | [],_=>True
 | s::r,st=>Da vs s st/\Dh vs r (Yy vs s st)
structure Yb where
 has:Bs->Bool
 inp:Bs->Int
def Gm(x:Int)(m:Bs)(y:Int):Bool:=if x<y then decide (m=[60]\/m=[60,61]\/m=[33,61]) else if x=y then decide (m=[60,61]\/m=[61]\/m=[62,61]) else decide (m=[62]\/m=[62,61]\/m=[33,61])
abbrev tH(l:List Bool)(a:Int):Bool:=decide (0<=a)&&(decide (a<l.length)&&l.getD a.toNat false)
def Xp(E:Yb)(hs:List Bool)(x:zM):Bool :=
 if x.kind=1 then tH hs x.left || tH hs x.right else if x.kind=2 then tH hs x.left&&tH hs x.right else if x.kind=3 then !tH hs x.left
 else if x.kind=4 then true else if x.kind=5 then E.has x.name else if x.kind=6 then decide (E.inp x.name=1)
 else if x.kind=7 then Gm (E.inp x.name) x.mark (if x.other=[] then x.num else E.inp x.other) else false
def XZ(E:Yb):List zM->List Bool->List Bool
 | [],hs=>hs
 | x::r,hs=>XZ E r (hs++[Xp E hs x])
def Ym(E:Yb)(N:List zM):List Bool:=XZ E N []
theorem X7(E:Yb)(N:List zM):∀hs,∃t,XZ E N hs=hs++t/\t.length=N.length:=by
 induction N with
 | nil=>intro hs;exact⟨[],by simp[XZ],rfl⟩
 | cons x r ih =>
   intro hs;obtain⟨t,h1,h2⟩:=ih (hs++[Xp E hs x]);exact⟨Xp E hs x::t,by rw[XZ,h1];simp,by simp[h2]⟩
theorem bU(E:Yb)(N:List zM):(Ym E N).length=N.length:=by
 obtain⟨t,h1,h2⟩:=X7 E N [];unfold Ym;rw[h1];simpa using h2
theorem Ut(E:Yb)(N M:List zM):∀hs,XZ E (N++M) hs=XZ E M (XZ E N hs):=by
 induction N with
 | nil=>intro hs;rfl
 | cons x r ih=>intro hs;rw[l9,XZ,ih,XZ]
theorem ui(E:Yb)(N:List zM)(a:Nat)(ha:a<N.length):(Ym E N).getD a false=Xp E (Ym E (N.take a)) (qR N a):=by
 have e:N=N.take a++qR N a::N.drop (a+1):=by
  unfold qR;rw[List.getD,p9 ha,Option.getD_some,<-pe ha,List.take_append_drop]
 have hl:(Ym E (N.take a)).length=a:=by rw[bU,lu];omega
 unfold Ym
 conv=>lhs;rw[e,Ut,XZ]
 obtain⟨t,h1,_⟩:=X7 E (N.drop (a+1)) (XZ E (N.take a) []++[Xp E (XZ E (N.take a) []) (qR N a)]);have hl2:(XZ E (N.take a) []).length=a:=hl;rw[h1,pd,List.getD,ma (by omega),hl2,Nat.sub_self];rfl
theorem Fx(E:Yb)(N:List zM)(a c:Nat)(hc:c<a)(ha:a<=N.length):(Ym E (N.take a)).getD c false=(Ym E N).getD c false:=by
 conv=>rhs;rw[<-List.take_append_drop a N]
 unfold Ym;rw[Ut];obtain⟨t,h1,_⟩:=X7 E (N.drop a) (XZ E (N.take a) []);have hl:(XZ E (N.take a) []).length=a:=by have:=bU E (N.take a);unfold Ym at this;rw[this,lu];omega
 rw[h1,List.getD,List.getD,pm (by omega)]
def GI(vs:List Int)(l:List eU)(v:Bool):Prop:=∀st rest,(Dh vs rest (st++[v])->Dh vs (l++rest) st)/\UW vs (l++rest) st=UW vs rest (st++[v])
theorem GI.one{vs:List Int}{s:eU}{v:Bool}(h:∀st,Da vs s st/\Yy vs s st=st++[v]):GI vs [s] v:=fun st rest=>by
 obtain⟨h1,h2⟩:=h st;exact⟨fun h3=>⟨h1,by rw[h2];exact h3⟩,by show UW vs rest (Yy vs s st)=_;rw[h2]⟩
theorem GI.neg{vs:List Int}{l:List eU}{v:Bool}(h:GI vs l v):GI vs (l++[⟨4,0,0,[],0⟩]) (!v):=fun st rest=>by
 have h1:=h st (⟨4,0,0,[],0⟩::rest);have e:Yy vs ⟨4,0,0,[],0⟩ (st++[v])=st++[!v]:=by simp[Yy]
 rw[pd];refine⟨fun h3=>h1.1 ⟨⟨by simp,by simp,by simp,by simp,by simp,by simp⟩,by rw[e];exact h3⟩,?_⟩;show UW vs (l++⟨4,0,0,[],0⟩::rest) st=_;rw[h1.2,UW,e]
end Go.Proofs.YtnbpdffdnphbeabGreatDoor
