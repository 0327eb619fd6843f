import Derived.Test.YtnbpdffdnphbeabGreatDoorLex
import Derived.Deep.AppendLies
namespace Go.Proofs.YtnbpdffdnphbeabGreatDoor
open Go.RowKit
variable{g o:Nat}{w:World}
theorem zS(w:World)(cs:Array Value)(T:TypeId)(l:List Value)(h:cs.toList=l) :
 ∀j u,l[j]? = some u->(w.alloc (.cells cs T)).cell? ((⟨w.heap.size,0,none⟩:Addr).add j)=some u:=by
 subst h;exact World.news_of_block (heap_alloc_new w _)
def gU(w:World)(g o:Nat)(ts:List (Nat × Bs)):Prop:=∀i,i<ts.length ->
 w.cell? ⟨g,o+i*3,none⟩=some (.string ⟨(ts.getD i (0,[])).2.toArray⟩)/\w.cell? ⟨g,o+i*3+1,none⟩=some (.int .i64 (ts.getD i (0,[])).1)/\w.cell? ⟨g,o+i*3+2,none⟩=some (.string ⟨(uS (ts.getD i (0,[])).2).toArray⟩)
abbrev vL:=List (Nat × Bs)
variable{ts:vL}
def opn(cl:Bs)(op:Int):Int:=if cl=xQ then op+1 else if cl=uV then op-1 else op
def zD6(word:Bs):vL->Nat->Int->Int->Int
 | [],_,_,at'=>at'
 | t::r,i,op,at'=>zD6 word r (i+1) (opn (uS t.2) op) (if opn (uS t.2) op=0/\uS t.2=word then (i:Int) else at')
def eW(ts:vL)(word:Bs):Int:=zD6 word ts 0 0 (-1)
def zDL:Bs->Nat->vL->Bs
 | s,_,[]=>s
 | s,i,t::r=>zDL ((if 0<i then s++[32] else s)++t.2) (i+1) r
def F9(ts:vL):Bs:=zDL [] 0 ts
def xR:Bs:=[110,111,116]
def uP:Bs:=[119,104,101,110]
def Zt:Bs:=[114,117,108,101]
def brk(s:Bs):Bs:=[40,32]++s++[32,41]
def j5:vL->Nat->Option Nat
 | [],_=>none
 | t::r,i=>if uS t.2=uP then some i else j5 r (i+1)
theorem kS(a b:Bs):(ByteArray.mk a.toArray)++(ByteArray.mk b.toArray)=⟨(a++b).toArray⟩:=by
 apply ByteArray.ext
 simp
def ZB:Nat->vL->Bool
 | 0,_=>false
 | n+1,ts =>
   if 0<=eW ts rU then ZB n (ts.take (eW ts rU).toNat)&&ZB n (ts.drop ((eW ts rU).toNat+1))
   else if 0<=eW ts tP then ZB n (ts.take (eW ts tP).toNat)&&ZB n (ts.drop ((eW ts tP).toNat+1))
   else if uS (ts.getD 0 (0,[])).2=xR then decide (0<ts.length)&&ZB n (ts.drop 1)
   else if uS (ts.getD 0 (0,[])).2=xQ then decide (2<ts.length)&&ZB n ((ts.drop 1).take (ts.length-2))
   else decide (0<ts.length)
theorem gU.drop(h:gU w g o ts)(k:Nat):gU w g (o+k*3) (ts.drop k):=by
 intro i hi;have hi':k+i<ts.length:=by rw[ce]at hi;omega
 obtain⟨a,b,c⟩:=h (k+i) hi';have e:(ts.drop k).getD i (0,[])=ts.getD (k+i) (0,[]):=by simp[List.getD]
 rw[e,show o+k*3+i*3=o+(k+i)*3 by omega];exact⟨a,b,c⟩
theorem gU.take(h:gU w g o ts)(k:Nat):gU w g o (ts.take k):=by
 intro i hi;rw[lu]at hi;obtain⟨a,b,c⟩:=h i (by omega);have e:(ts.take k).getD i (0,[])=ts.getD i (0,[]):=by simp only[List.getD,ct];rw[tg (by omega)]
 rw[e];exact⟨a,b,c⟩
theorem gU.below{w':World}{B:Nat}(h:gU w g o ts)(hb:Below B w w')(hg:g<B):gU w' g o ts:=by
 intro i hi;obtain⟨a,b,c⟩:=h i hi;exact⟨by rw[hb.cell (p:=⟨g,_,none⟩) hg];exact a,by rw[hb.cell (p:=⟨g,_,none⟩) hg];exact b,by rw[hb.cell (p:=⟨g,_,none⟩) hg];exact c⟩
theorem zU{B:Nat}{e:TypeId}{size:Nat}{v:Value}{n:Nat}{xs:List Value}(zEA:w.ownsRow B e size v n xs):∀k,v.ownBlock=some k->B<=k:=by
 intro k hk;rcases zEA.2 with ⟨h1,_⟩|⟨g,cap,yJ,h1,h2,_⟩
 ·rw[h1]at hk;simp[Value.ownBlock]at hk
 ·rw[h1]at hk;simp[Value.ownBlock]at hk;omega
end Go.Proofs.YtnbpdffdnphbeabGreatDoor
