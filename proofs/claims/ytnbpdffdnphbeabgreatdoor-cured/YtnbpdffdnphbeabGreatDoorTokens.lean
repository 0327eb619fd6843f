import Derived.Test.YtnbpdffdnphbeabGreatDoorLex
import Derived.Deep.AppendLies
namespace Go.Proofs.YtnbpdffdnphbeabGreatDoor
open Go.RowKit
variable{g o:Nat}{w:World}
theorem zM(w:World)(cs:Array Value)(T:TypeId)(l:List Value)(h:cs.toList=l) :
 ∀j u,l[j]? = some u->(w.alloc (.cells cs T)).cell? ((⟨w.heap.size,0,none⟩:Addr).add j)=some u:=by
 subst h;exact World.news_of_block (heap_alloc_new w _)
def oQ(w:World)(g o:Nat)(ts:List (Nat × Bs)):Prop:=∀i,i<ts.length ->
 w.cell? ⟨g,o+i*3,none⟩=some (.string ⟨(ts.getD i (0,[])).2.toArray⟩)/\w.cell? ⟨g,o+i*3+1,none⟩=some (.int .i64 (ts.getD i (0,[])).1)/\w.cell? ⟨g,o+i*3+2,none⟩=some (.string ⟨(zZ (ts.getD i (0,[])).2).toArray⟩)
abbrev zT:=List (Nat × Bs)
def opn(cl:Bs)(op:Int):Int:=if cl=yO then op+1 else if cl=vJ then op-1 else op
def jL(word:Bs):zT->Nat->Int->Int->Int
 | [],_,_,at'=>at'
 | t::r,i,op,at'=>jL word r (i+1) (opn (zZ t.2) op) (if opn (zZ t.2) op=0/\zZ t.2=word then (i:Int) else at')
def uC(ts:zT)(word:Bs):Int:=jL word ts 0 0 (-1)
theorem UV(word:Bs)(ts:zT):∀(i:Nat) (op at':Int),-1<=at'->at'<i -> -1<=jL word ts i op at'/\jL word ts i op at'<i+ts.length:=by
 induction ts with
 | nil=>intro i op a h1 h2;simp[jL];omega
 | cons t r ih =>
   intro i op a h1 h2;rw[jL];have:=ih (i+1) (opn (zZ t.2) op) (if opn (zZ t.2) op=0/\zZ t.2=word then (i:Int) else a) (by split <;> omega) (by split <;> omega);simp only[tz];omega
theorem YH(ts:zT)(word:Bs) : -1<=uC ts word/\uC ts word<ts.length:=by
 have:=UV word ts 0 0 (-1) (by omega) (by omega);unfold uC;omega
def Vw:Bs->Nat->zT->Bs
 | s,_,[]=>s
 | s,i,t::r=>Vw ((if 0<i then s++[32] else s)++t.2) (i+1) r
def bD(ts:zT):Bs:=Vw [] 0 ts
def sP:zT->Nat
 | []=>0
 | t::r=>t.2.length+1+sP r
theorem Uu(a b:zT):sP (a++b)=sP a+sP b:=by
 induction a with
 | nil=>simp[sP]
 | cons t r ih=>simp[sP,ih];omega
theorem tY(ts:zT)(k:Nat):sP (ts.take k)+sP (ts.drop k)=sP ts:=by
 rw[<-Uu,List.take_append_drop]
theorem Ky(ts:zT)(k:Nat):sP (ts.drop k)<=sP ts:=by have:=tY ts k;omega
theorem Kx(ts:zT)(k:Nat):sP (ts.take k)<=sP ts:=by have:=tY ts k;omega
theorem Xl(ts:zT):∀(s:Bs) (i:Nat),(Vw s i ts).length<=s.length+sP ts:=by
 induction ts with
 | nil=>intro s i;simp[Vw,sP]
 | cons t r ih =>
   intro s i;rw[Vw];have h1:=ih ((if 0<i then s++[32] else s)++t.2) (i+1)
   have h2:((if 0<i then s++[32] else s)++t.2).length<=s.length+1+t.2.length:=by
    split <;> simp <;> omega
   simp only[sP];omega
def yX:Bs:=[110,111,116]
def xC:Bs:=[119,104,101,110]
def jZ:Bs:=[114,117,108,101]
def Uj(s:Bs):Bs:=[40,32]++s++[32,41]
def tR:Nat->zT->Bs × Int
 | 0,_=>([],0)
 | n+1,ts =>
   if 0<=uC ts jU then ((tR n (ts.take (uC ts jU).toNat)).1++[32,111,114,32]++(tR n (ts.drop ((uC ts jU).toNat+1))).1,2)
   else if 0<=uC ts xT then
    let a:=tR n (ts.take (uC ts xT).toNat)
    let b:=tR n (ts.drop ((uC ts xT).toNat+1))
    ((if a.2=2 then Uj a.1 else a.1)++[32,97,110,100,32]++(if b.2=2 then Uj b.1 else b.1),1)
   else if zZ (ts.getD 0 (0,[])).2=yX then
    let a:=tR n (ts.drop 1)
    ([110,111,116,32]++(if 0<a.2 then Uj a.1 else a.1),0)
   else if zZ (ts.getD 0 (0,[])).2=yO then tR n ((ts.drop 1).take (ts.length-2))
   else (bD ts,0)
def Qb:zT->Nat->Option Nat
 | [],_=>none
 | t::r,i=>if zZ t.2=xC then some i else Qb r (i+1)
def sA(ts:zT):Int:=match Qb ts 0 with|some i=>(i:Int)|none=>(ts.length:Int)-1
theorem X1(a b:Bs):(ByteArray.mk a.toArray)++(ByteArray.mk b.toArray)=⟨(a++b).toArray⟩:=by
 apply ByteArray.ext
 simp
def pC:Nat->zT->Bool
 | 0,_=>false
 | n+1,ts =>
   if 0<=uC ts jU then pC n (ts.take (uC ts jU).toNat)&&pC n (ts.drop ((uC ts jU).toNat+1))
   else if 0<=uC ts xT then pC n (ts.take (uC ts xT).toNat)&&pC n (ts.drop ((uC ts xT).toNat+1))
   else if zZ (ts.getD 0 (0,[])).2=yX then decide (0<ts.length)&&pC n (ts.drop 1)
   else if zZ (ts.getD 0 (0,[])).2=yO then decide (2<ts.length)&&pC n ((ts.drop 1).take (ts.length-2))
   else decide (0<ts.length)
theorem wB(ts:zT)(k:Nat)(h:k<ts.length):sP (ts.take k)+1+sP (ts.drop (k+1))<=sP ts:=by
 have h1:=tY ts k;rw[zL ts k h,sP]at h1;omega
theorem zo(n:Nat):∀ts:zT,(tR n ts).1.length<=16*sP ts:=by
 induction n with
 | zero=>intro ts;simp[tR]
 | succ n ih =>
   intro ts;have bo:=YH ts jU;have ba:=YH ts xT;rw[tR];split
   ·have h1:=ih (ts.take (uC ts jU).toNat);have h2:=ih (ts.drop ((uC ts jU).toNat+1))
    have h3:=wB ts (uC ts jU).toNat (by omega);simp only[tq,tz,List.length_nil];omega
   ·split
    ·have h1:=ih (ts.take (uC ts xT).toNat);have h2:=ih (ts.drop ((uC ts xT).toNat+1))
     have h3:=wB ts (uC ts xT).toNat (by omega)
     have h4:∀(c:Prop) [Decidable c] (a:Bs),(if c then Uj a else a).length<=a.length+4:=by
      intro c _ a;split <;> simp[Uj]
     have h5:=h4 ((tR n (ts.take (uC ts xT).toNat)).2=2) (tR n (ts.take (uC ts xT).toNat)).1;have h6:=h4 ((tR n (ts.drop ((uC ts xT).toNat+1))).2=2) (tR n (ts.drop ((uC ts xT).toNat+1))).1;simp only[tq,tz,List.length_nil];omega
    ·split
     ·rename_i hn
      have h1:=ih (ts.drop 1)
      have h4:∀(c:Prop) [Decidable c] (a:Bs),(if c then Uj a else a).length<=a.length+4:=by
       intro c _ a;split <;> simp[Uj]
      have h5:=h4 (0<(tR n (ts.drop 1)).2) (tR n (ts.drop 1)).1
      have h0:0<ts.length:=by
       cases ts with
       | nil=>revert hn;decide
       | cons t r=>simp
      have h3:=wB ts 0 h0;simp only[tq,tz,List.length_nil,db]at h3 ⊢;omega
     ·split
      ·have h1:=ih ((ts.drop 1).take (ts.length-2))
       have h2:=Kx (ts.drop 1) (ts.length-2);have h3:=Ky ts 1;omega
      ·have:=Xl ts [] 0;simp only[bD];simp at this;omega
theorem oQ.drop{ts:zT}(h:oQ w g o ts)(k:Nat):oQ w g (o+k*3) (ts.drop k):=by
 intro i hi;have hi':k+i<ts.length:=by rw[bw]at hi;omega
 obtain⟨a,b,c⟩:=h (k+i) hi';have e:(ts.drop k).getD i (0,[])=ts.getD (k+i) (0,[]):=by simp[List.getD]
 rw[e,show o+k*3+i*3=o+(k+i)*3 by omega];exact⟨a,b,c⟩
theorem oQ.take{ts:zT}(h:oQ w g o ts)(k:Nat):oQ w g o (ts.take k):=by
 intro i hi;rw[cb]at hi;obtain⟨a,b,c⟩:=h i (by omega);have e:(ts.take k).getD i (0,[])=ts.getD i (0,[]):=by simp only[List.getD,List.getElem?_take];rw[tr (by omega)]
 rw[e];exact⟨a,b,c⟩
def jM:zT->Nat->Nat->List (Nat × Nat)
 | [],_,_=>[]
 | t::r,i,a=>if zZ t.2=uX then (a,i-a)::jM r (i+1) (i+1) else jM r (i+1) a
def wN(ts:zT):List (Nat × Nat):=jM ts 0 0
def Y9(ts:zT)(p:Nat × Nat):zT:=(ts.drop p.1).take p.2
def mK(n:Nat)(u:zT):Bs :=
 if zZ (u.getD 0 (0,[])).2=jZ then bD (u.take ((sA u).toNat+1))++[32]++(tR n (u.drop ((sA u).toNat+1))).1 else bD u
def Vv(n:Nat)(u:zT):Prop :=
 0<u.length/\(zZ (u.getD 0 (0,[])).2=jZ->0<=sA u/\sA u+1<u.length/\pC n (u.drop ((sA u).toNat+1))=true)
def Yz(n:Nat)(ts:zT):List (Nat × Nat)->Bs->Bs
 | [],s=>s
 | p::r,s=>Yz n ts r (s++mK n (Y9 ts p)++[59,10])
def ZA(ts:zT):List (Nat × Nat)->Nat
 | []=>0
 | p::r=>20*(sP (Y9 ts p)+1)+ZA ts r
theorem JA(n:Nat)(u:zT):(mK n u).length+2<=20*(sP u+1):=by
 unfold mK;split
 ·have h1:=Xl (u.take ((sA u).toNat+1)) [] 0
  have h2:=zo n (u.drop ((sA u).toNat+1));have h3:=tY u ((sA u).toNat+1);simp only[bD,tq,tz,List.length_nil]at h1 ⊢;omega
 ·have h1:=Xl u [] 0
  simp only[bD];simp only[List.length_nil]at h1;omega
theorem zA8(ts:zT)(m:Nat):∀(i a:Nat),ts.length-i=m->a<=i->ZA ts (jM (ts.drop i) i a)<=20*sP (ts.drop a):=by
 induction m with
 | zero =>
   intro i a h _;rw[pe (by omega),jM,ZA];omega
 | succ m ih =>
   intro i a h ha;rw[zL ts i (by omega),jM];split
   ·rw[ZA]
    have h1:=ih (i+1) (i+1) (by omega) (tg _);have h2:=tY (ts.drop a) (i-a);rw[List.drop_drop,show a+(i-a)=i by omega,zL ts i (by omega),sP]at h2;simp only[Y9];omega
   ·exact ih (i+1) a (by omega) (by omega)
theorem Gp(ts:zT):ZA ts (wN ts)<=20*sP ts:=by
 have:=zA8 ts ts.length 0 0 (by omega) (tg _);simpa[wN] using this
theorem Fh(n:Nat):∀(l:Bs) (p:Nat),sP (uH n l p)<=2*l.length:=by
 induction n with
 | zero=>intro l p;simp[uH,sP]
 | succ n ih =>
   intro l p;simp only[uH];split
   ·simp[sP]
   ·split
    ·have:=ih (l.drop 1) (p+1);rw[bw]at this;omega
    ·rename_i h0 _
     have h1:=ih (l.drop (uD l)) (p+uD l);have h2:=oA l;have h3:=CQ (l:=l) (by omega);rw[bw]at h1;simp only[sP,cb];omega
theorem DA(l:Bs):sP (xB l 0)<=2*l.length:=by
 have:=Fh l.length l 0;simpa[xB] using this
def Cy(n:Nat)(l:Bs):Bs:=Yz n (xB l 0) (wN (xB l 0)) []
theorem oQ.below{w':World}{B:Nat}{ts:zT}(h:oQ w g o ts)(hb:Below B w w')(hg:g<B):oQ w' g o ts:=by
 intro i hi;obtain⟨a,b,c⟩:=h i hi;exact⟨by rw[hb.cell (p:=⟨g,_,none⟩) hg];exact a,by rw[hb.cell (p:=⟨g,_,none⟩) hg];exact b,by rw[hb.cell (p:=⟨g,_,none⟩) hg];exact c⟩
theorem zV{B:Nat}{e:TypeId}{size:Nat}{v:Value}{n:Nat}{xs:List Value}(zJU:w.ownsRow B e size v n xs):∀k,v.ownBlock=some k->B<=k:=by
 intro k hk;rcases zJU.2 with ⟨h1,_⟩|⟨g,cap,yT,h1,h2,_⟩
 ·rw[h1]at hk;simp[Value.ownBlock]at hk
 ·rw[h1]at hk;simp[Value.ownBlock]at hk;omega
end Go.Proofs.YtnbpdffdnphbeabGreatDoor
