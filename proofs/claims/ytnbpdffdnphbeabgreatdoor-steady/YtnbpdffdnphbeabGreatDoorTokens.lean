import Derived.Test.YtnbpdffdnphbeabGreatDoorLex
import Derived.Deep.AppendLies
namespace Go.Proofs.YtnbpdffdnphbeabGreatDoor
open Go.RowKit
theorem zM(w:World)(cs:Array Value)(T:TypeId)(l:List Value)(h:cs.toList=l) :
 ∀j u,l[j]? = some u->(w.alloc (.cells cs T)).cell? ((⟨w.heap.size,0,none⟩:Addr).add j)=some u:=by
 subst h;exact World.news_of_block (heap_alloc_new w _)
abbrev yF:=List (Nat × Bs)
def opn(cl:Bs)(op:Int):Int:=if cl=yS then op+1 else if cl=vF then op-1 else op
def tI(word:Bs):yF->Nat->Int->Int->Int
 | [],_,_,at'=>at'
 | t::r,i,op,at'=>tI word r (i+1) (opn (yE t.2) op) (if opn (yE t.2) op=0/\yE t.2=word then (i:Int) else at')
def uO(ts:yF)(word:Bs):Int:=tI word ts 0 0 (-1)
theorem CV(word:Bs)(ts:yF):∀(i:Nat) (op at':Int),-1<=at'->at'<i -> -1<=tI word ts i op at'/\tI word ts i op at'<i+ts.length:=by
 induction ts with
 | nil=>intro i op a h1 h2;simp[tI];omega
 | cons t r ih =>
   intro i op a h1 h2;rw[tI];have:=ih (i+1) (opn (yE t.2) op) (if opn (yE t.2) op=0/\yE t.2=word then (i:Int) else a) (by split <;> omega) (by split <;> omega);simp only[pb];omega
theorem XY(ts:yF)(word:Bs) : -1<=uO ts word/\uO ts word<ts.length:=by
 have:=CV word ts 0 0 (-1) (by omega) (by omega);unfold uO;omega
def Bc:Bs->Nat->yF->Bs
 | s,_,[]=>s
 | s,i,t::r=>Bc ((if 0<i then s++[32] else s)++t.2) (i+1) r
def cM(ts:yF):Bs:=Bc [] 0 ts
def iG:yF->Nat
 | []=>0
 | t::r=>t.2.length+1+iG r
theorem Cq(a b:yF):iG (a++b)=iG a+iG b:=by
 induction a with
 | nil=>simp[iG]
 | cons t r ih=>simp[iG,ih];omega
theorem pV(ts:yF)(k:Nat):iG (ts.take k)+iG (ts.drop k)=iG ts:=by
 rw[<-Cq,List.take_append_drop]
theorem VY(ts:yF)(k:Nat):iG (ts.drop k)<=iG ts:=by have:=pV ts k;omega
theorem VX(ts:yF)(k:Nat):iG (ts.take k)<=iG ts:=by have:=pV ts k;omega
theorem Q7(ts:yF):∀(s:Bs) (i:Nat),(Bc s i ts).length<=s.length+iG ts:=by
 induction ts with
 | nil=>intro s i;simp[Bc,iG]
 | cons t r ih =>
   intro s i;rw[Bc];have h1:=ih ((if 0<i then s++[32] else s)++t.2) (i+1)
   have h2:((if 0<i then s++[32] else s)++t.2).length<=s.length+1+t.2.length:=by
    split <;> simp <;> omega
   simp only[iG];omega
def xE:Bs:=[110,111,116]
def xF:Bs:=[119,104,101,110]
def uH:Bs:=[114,117,108,101]
def BW(s:Bs):Bs:=[40,32]++s++[32,41]
def pO:Nat->yF->Bs × Int
 | 0,_=>([],0)
 | n+1,ts =>
   if 0<=uO ts tC then ((pO n (ts.take (uO ts tC).toNat)).1++[32,111,114,32]++(pO n (ts.drop ((uO ts tC).toNat+1))).1,2)
   else if 0<=uO ts xW then
    let a:=pO n (ts.take (uO ts xW).toNat)
    let b:=pO n (ts.drop ((uO ts xW).toNat+1))
    ((if a.2=2 then BW a.1 else a.1)++[32,97,110,100,32]++(if b.2=2 then BW b.1 else b.1),1)
   else if yE (ts.getD 0 (0,[])).2=xE then
    let a:=pO n (ts.drop 1)
    ([110,111,116,32]++(if 0<a.2 then BW a.1 else a.1),0)
   else if yE (ts.getD 0 (0,[])).2=yS then pO n ((ts.drop 1).take (ts.length-2))
   else (cM ts,0)
def JA:yF->Nat->Option Nat
 | [],_=>none
 | t::r,i=>if yE t.2=xF then some i else JA r (i+1)
def eJ(ts:yF):Int:=match JA ts 0 with|some i=>(i:Int)|none=>(ts.length:Int)-1
theorem QQ(a b:Bs):(ByteArray.mk a.toArray)++(ByteArray.mk b.toArray)=⟨(a++b).toArray⟩:=by
 apply ByteArray.ext
 simp
def mB:Nat->yF->Bool
 | 0,_=>false
 | n+1,ts =>
   if 0<=uO ts tC then mB n (ts.take (uO ts tC).toNat)&&mB n (ts.drop ((uO ts tC).toNat+1))
   else if 0<=uO ts xW then mB n (ts.take (uO ts xW).toNat)&&mB n (ts.drop ((uO ts xW).toNat+1))
   else if yE (ts.getD 0 (0,[])).2=xE then decide (0<ts.length)&&mB n (ts.drop 1)
   else if yE (ts.getD 0 (0,[])).2=yS then decide (2<ts.length)&&mB n ((ts.drop 1).take (ts.length-2))
   else decide (0<ts.length)
theorem Yb(ts:yF)(k:Nat)(h:k<ts.length:=by omega):iG (ts.take k)+1+iG (ts.drop (k+1))<=iG ts:=by
 have h1:=pV ts k;rw[zN ts k h,iG]at h1;omega
theorem S8(n:Nat):∀ts:yF,(pO n ts).1.length<=16*iG ts:=by
 induction n with
 | zero=>intro ts;simp[pO]
 | succ n ih =>
   intro ts;have bo:=XY ts tC;have ba:=XY ts xW;rw[pO];split
   ·have h1:=ih (ts.take (uO ts tC).toNat);have h2:=ih (ts.drop ((uO ts tC).toNat+1))
    have h3:=Yb ts (uO ts tC).toNat;simp only[tm,pb,ge];omega
   ·split
    ·have h1:=ih (ts.take (uO ts xW).toNat);have h2:=ih (ts.drop ((uO ts xW).toNat+1))
     have h3:=Yb ts (uO ts xW).toNat
     have h4:∀(c:Prop) [Decidable c] (a:Bs),(if c then BW a else a).length<=a.length+4:=by
      intro c _ a;split <;> simp[BW]
     have h5:=h4 ((pO n (ts.take (uO ts xW).toNat)).2=2) (pO n (ts.take (uO ts xW).toNat)).1;have h6:=h4 ((pO n (ts.drop ((uO ts xW).toNat+1))).2=2) (pO n (ts.drop ((uO ts xW).toNat+1))).1;simp only[tm,pb,ge];omega
    ·split
     ·rename_i hn
      have h1:=ih (ts.drop 1)
      have h4:∀(c:Prop) [Decidable c] (a:Bs),(if c then BW a else a).length<=a.length+4:=by
       intro c _ a;split <;> simp[BW]
      have h5:=h4 (0<(pO n (ts.drop 1)).2) (pO n (ts.drop 1)).1
      have h0:0<ts.length:=by
       cases ts with
       | nil=>revert hn;decide
       | cons t r=>simp
      have h3:=Yb ts 0 h0;simp only[tm,pb,ge,cw]at h3 ⊢;omega
     ·split
      ·have h1:=ih ((ts.drop 1).take (ts.length-2))
       have h2:=VX (ts.drop 1) (ts.length-2);have h3:=VY ts 1;omega
      ·have:=Q7 ts [] 0;simp only[cM];simp at this;omega
def tJ:yF->Nat->Nat->List (Nat × Nat)
 | [],_,_=>[]
 | t::r,i,a=>if yE t.2=qM then (a,i-a)::tJ r (i+1) (i+1) else tJ r (i+1) a
def Yi(ts:yF):List (Nat × Nat):=tJ ts 0 0
def XO(ts:yF)(p:Nat × Nat):yF:=(ts.drop p.1).take p.2
def lI(n:Nat)(u:yF):Bs :=
 if yE (u.getD 0 (0,[])).2=uH then cM (u.take ((eJ u).toNat+1))++[32]++(pO n (u.drop ((eJ u).toNat+1))).1 else cM u
def Bb(n:Nat)(u:yF):Prop :=
 0<u.length/\(yE (u.getD 0 (0,[])).2=uH->0<=eJ u/\eJ u+1<u.length/\mB n (u.drop ((eJ u).toNat+1))=true)
def XC(n:Nat)(ts:yF):List (Nat × Nat)->Bs->Bs
 | [],s=>s
 | p::r,s=>XC n ts r (s++lI n (XO ts p)++[59,10])
def YT(ts:yF):List (Nat × Nat)->Nat
 | []=>0
 | p::r=>20*(iG (XO ts p)+1)+YT ts r
theorem Vk(n:Nat)(u:yF):(lI n u).length+2<=20*(iG u+1):=by
 unfold lI;split
 ·have h1:=Q7 (u.take ((eJ u).toNat+1)) [] 0
  have h2:=S8 n (u.drop ((eJ u).toNat+1));have h3:=pV u ((eJ u).toNat+1);simp only[cM,tm,pb,ge]at h1 ⊢;omega
 ·have h1:=Q7 u [] 0
  simp only[cM];simp only[ge]at h1;omega
theorem P0(ts:yF)(m:Nat):∀(i a:Nat),ts.length-i=m->a<=i->YT ts (tJ (ts.drop i) i a)<=20*iG (ts.drop a):=by
 induction m with
 | zero =>
   intro i a h _;rw[pf (by omega),tJ,YT];omega
 | succ m ih =>
   intro i a h ha;rw[zN ts i,tJ];split
   ·rw[YT]
    have h1:=ih (i+1) (i+1) (by omega) (tg _);have h2:=pV (ts.drop a) (i-a);rw[List.drop_drop,show a+(i-a)=i by omega,zN ts i,iG]at h2;simp only[XO];omega
   ·exact ih (i+1) a (by omega) (by omega)
theorem qt(ts:yF):YT ts (Yi ts)<=20*iG ts:=by
 have:=P0 ts ts.length 0 0 (by omega) (tg _);simpa[Yi] using this
theorem yy(n:Nat):∀(l:Bs) (p:Nat),iG (uX n l p)<=2*l.length:=by
 induction n with
 | zero=>intro l p;simp[uX,iG]
 | succ n ih =>
   intro l p;simp only[uX];split
   ·simp[iG]
   ·split
    ·have:=ih (l.drop 1) (p+1);rw[cp]at this;omega
    ·rename_i h0 _
     have h1:=ih (l.drop (uP l)) (p+uP l);have h2:=sK l;have h3:=Ga (l:=l) (by omega);rw[cp]at h1;simp only[iG,cq];omega
theorem GU(l:Bs):iG (xI l 0)<=2*l.length:=by
 have:=yy l.length l 0;simpa[xI] using this
def X9(n:Nat)(l:Bs):Bs:=XC n (xI l 0) (Yi (xI l 0)) []
theorem zS{w:World}{B:Nat}{e:TypeId}{size:Nat}{v:Value}{n:Nat}{xs:List Value}(aA:w.ownsRow B e size v n xs):∀k,v.ownBlock=some k->B<=k:=by
 intro k hk;rcases aA.2 with ⟨h1,_⟩|⟨g,cap,yB,h1,h2,_⟩
 ·rw[h1]at hk;simp[Value.ownBlock]at hk
 ·rw[h1]at hk;simp[Value.ownBlock]at hk;omega
def YA(n:Nat)(l:Bs):Bs × Int:=if 4000<l.length then ([],1) else if 0<=YN l then ([],2) else (X9 n l,0)
end Go.Proofs.YtnbpdffdnphbeabGreatDoor
