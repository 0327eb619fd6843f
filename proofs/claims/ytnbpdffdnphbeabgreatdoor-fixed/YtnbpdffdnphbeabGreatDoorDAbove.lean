import Derived.Test.YtnbpdffdnphbeabGreatDoorMState
set_option maxHeartbeats 2000000
namespace Go.Proofs.YtnbpdffdnphbeabGreatDoor
open Go.RowKit
variable{ls:List zE}{c r:Nat}{g f:Nat->Bool}{x:zE}
def Yp(ins cs:List Bs)(s:xZ):Yb:=⟨fun nm=>tH s.has (zJ cs nm),fun nm=>qV s.inputs (zJ ins nm)⟩
theorem zB1(ins cs:List Bs)(s:xZ)(hs:List Bool)(x:zM):K2 (tO ins cs x) s hs=Xp (Yp ins cs s) hs x:=by
 unfold K2 Xp tO;simp only;by_cases h1:x.kind=1
 ·rw[tg h1,tg h1]
 rw[t7 h1,t7 h1];by_cases h2:x.kind=2
 ·rw[tg h2,tg h2]
 rw[t7 h2,t7 h2];by_cases h3:x.kind=3
 ·rw[tg h3,tg h3]
 rw[t7 h3,t7 h3];by_cases h4:x.kind=4
 ·rw[tg h4,tg h4]
 rw[t7 h4,t7 h4];by_cases h5:x.kind=5
 ·rw[tg h5,tg h5];unfold JF Yp;rw[tg h5]
 rw[t7 h5,t7 h5];by_cases h6:x.kind=6
 ·rw[tg h6,tg h6];unfold JF Yp;rw[t7 h5,tg (.inl h6)]
 rw[t7 h6,t7 h6];by_cases h7:x.kind=7
 ·rw[tg h7,tg h7]
  have e1:JF ins cs x=zJ ins x.name:=by unfold JF;rw[t7 h5,tg (.inr h7)]
  have e2:(if decide (x.other≠[])=true then qV s.inputs (jk ins x) else x.num)=(if x.other=[] then x.num else (Yp ins cs s).inp x.other):=by
   by_cases ho:x.other=[]
   ·simp[ho]
   ·simp only[ho,ne_eq,not_false_eq_true,decide_true,if_true,if_false];unfold jk Yp;rw[t7 ho]
  unfold Vu Gm;simp only;rw[e1,e2,show (Yp ins cs s).inp x.name=qV s.inputs (zJ ins x.name) from rfl];generalize qV s.inputs (zJ ins x.name)=p;generalize (if x.other=[] then x.num else (Yp ins cs s).inp x.other)=q;by_cases k1:p<q
  ·rw[tg k1,tg k1];rfl
  ·rw[t7 k1,t7 k1]
   by_cases k2:p=q
   ·rw[t7 (by omega),tg k2];rfl
   ·rw[tg (by omega),t7 k2];rfl
 ·rw[t7 h7,t7 h7]
theorem zBJ(ins cs:List Bs)(s:xZ)(N:List zM):∀hs,dP s (N.map (tO ins cs)) hs=XZ (Yp ins cs s) N hs:=by
 induction N with
 | nil=>intro hs;rfl
 | cons x r ih=>intro hs;rw[bw,dP,XZ,zB1,ih]
theorem kR(l:List Bs)(nm:Bs) : -1<=zJ l nm/\zJ l nm<l.length:=by
 have:=gI nm l 0;unfold zJ;omega
theorem all_map{α β:Type}(f:α->β)(p:β->Bool)(l:List α):(l.map f).all p=l.all fun x=>p (f x):=by
 induction l with
 | nil=>rfl
 | cons x r ih=>rw[bw,List.all_cons,List.all_cons,ih]
theorem Cp{α:Type}{p q:α->Bool}{l:List α}(h:∀x∈l,p x=q x):l.all p=l.all q:=by
 induction l with
 | nil=>rfl
 | cons x r ih=>rw[List.all_cons,List.all_cons,h x (by simp),ih fun y hy=>h y (by simp[hy])]
def kz(w:World)(b o:Nat)(G:List Bool):Prop:=∀k,k<64->w.cell? ⟨b,o+k,none⟩=some (.bool (G.getD k false))
theorem kz.below{w w':World}{b o:Nat}{G:List Bool}(h:kz w b o G)(hb:Below w.heap.size w w'):kz w' b o G:=fun k hk=>by
 rw[hb.cell (p:=⟨b,o+k,none⟩) (yO (h k hk))];exact h k hk
def Z9(G:List Bool)(a b:Int):Bool:=(decide (0<=a)&&decide (a<8))&&((decide (0<=b)&&decide (b<8))&&gA G a.toNat b.toNat)
theorem zCK(w:World)(g o:Nat)(G:List Bool)(a b:Int)(h:kz w g o G) :
 Calls Tryz.prog 140 #[.pointer (some ⟨g,o,none⟩),.int .i64 a,.int .i64 b] w fun e w'=>e=.returned (.bool (Z9 G a b))/\w'=w:=by
 have HA:Hid (Z9 G a b=((decide (0<=a)&&decide (a<8))&&((decide (0<=b)&&decide (b<8))&&gA G a.toNat b.toNat))):=rfl;have HP:=zA (fun k w=>lG k w);generalize Z9 G a b=ans at *;by_cases ka:0<=a/\a<8
 ·by_cases kb:0<=b/\b<8
  ·obtain⟨na,rfl⟩:∃n:Nat,a=(n:Int):=⟨a.toNat,by omega⟩
   obtain⟨nb,rfl⟩:∃n:Nat,b=(n:Int):=⟨b.toNat,by omega⟩;have HA2:Hid (ans=gA G na nb):=by have:=HA.out;rw[tl ka.1,tl ka.2,tl kb.1,tl kb.2]at this;simpa[Hid] using this
   have hc:=h (na*8+nb) (by omega);rw[<-cw]at hc;have HA3:Hid (ans=G.getD (na*8+nb) false):=HA2;have HP1:Hid (∀w:World,Calls Tryz.prog 158 #[.int .i64 (na:Int)] w fun e w'=>e=.returned (.bool true)/\w'=w):=fun w=>by have:=HP.out (na:Int) w;rw[tl ka.1,tl ka.2]at this;exact this
   have HP2:Hid (∀w:World,Calls Tryz.prog 158 #[.int .i64 (nb:Int)] w fun e w'=>e=.returned (.bool true)/\w'=w):=fun w=>by have:=HP.out (nb:Int) w;rw[tl kb.1,tl kb.2]at this;exact this
   have la:na<8:=by omega
   have lb:nb<8:=by omega
   clear HA HA2 HP h ka kb;generalize G.getD (na*8+nb) false=z at *
   go_enter Tryz.func140,Tryz.ntmps140
   go_wp2_with fail
   refine(HP1.out _).mono ?_;rintro e w' ⟨rfl,hw⟩;obtain rfl:=hw.symm;go_wp2_with fail
   refine(HP2.out _).mono ?_;rintro e w' ⟨rfl,hw⟩;obtain rfl:=hw.symm;go_wp2_with fail
   go_ret
   exact⟨zF HA3.out.symm,rfl⟩
  ·have hb:(decide (0<=b)&&decide (b<8))=false:=by
    rcases cb b 0 with h1|h1
    ·rw[tm (by omega)];rfl
    ·rw[tm (show ¬b<8 by omega)];simp
   have HA2:Hid (ans=false):=by have:=HA.out;rw[hb]at this;simpa[Hid] using this
   have HP1:Hid (∀w:World,Calls Tryz.prog 158 #[.int .i64 a] w fun e w'=>e=.returned (.bool true)/\w'=w):=fun w=>by have:=HP.out a w;rw[tl ka.1,tl ka.2]at this;exact this
   have HP2:Hid (∀w:World,Calls Tryz.prog 158 #[.int .i64 b] w fun e w'=>e=.returned (.bool false)/\w'=w):=fun w=>by have:=HP.out b w;rw[hb]at this;exact this
   clear HA HP h hb ka kb
   go_enter Tryz.func140,Tryz.ntmps140
   go_wp2_with fail
   refine(HP1.out _).mono ?_;rintro e w' ⟨rfl,hw⟩;obtain rfl:=hw.symm;go_wp2_with fail
   refine(HP2.out _).mono ?_;rintro e w' ⟨rfl,hw⟩;obtain rfl:=hw.symm;go_wp2_with fail
   go_ret
   exact⟨zF HA2.out.symm,rfl⟩
 ·have ha:(decide (0<=a)&&decide (a<8))=false:=by
   rcases cb a 0 with h1|h1
   ·rw[tm (by omega)];rfl
   ·rw[tm (show ¬a<8 by omega)];simp
  have HA2:Hid (ans=false):=by have:=HA.out;rw[ha]at this;simpa[Hid] using this
  have HP1:Hid (∀w:World,Calls Tryz.prog 158 #[.int .i64 a] w fun e w'=>e=.returned (.bool false)/\w'=w):=fun w=>by have:=HP.out a w;rw[ha]at this;exact this
  clear HA HP h ha ka
  go_enter Tryz.func140,Tryz.ntmps140
  go_wp2_with fail
  refine(HP1.out _).mono ?_;rintro e w' ⟨rfl,hw⟩;obtain rfl:=hw.symm;go_wp2_with fail
  go_ret
  exact⟨zF HA2.out.symm,rfl⟩
theorem Yq(w:World)(b o:Nat)(G:List Bool)(x y:Int)(h:kz w b (o+3) G) :
 Calls Tryz.prog 94 #[.pointer (some ⟨b,o,none⟩),.int .i64 x,.int .i64 y] w fun e w'=>e=.returned (.bool (Z9 G x y))/\w'=w:=by
 have HG:=zA (zCK w b (o+3) G x y h);clear h;generalize Z9 G x y=z at *
 go_enter Tryz.func94,Tryz.ntmps94
 go_wp2_with fail
 refine HG.out.mono ?_;rintro e w' ⟨rfl,hw⟩;obtain rfl:=hw.symm;go_wp2_with fail
 go_ret
 exact⟨rfl,rfl⟩
structure vJ(ls:List zE):Prop where
 many:∀i,i<ls.length->qW ls i=false
 err:∀i,i<ls.length->tT ls i=0
 nam:qA (uE (zN ls) ls gZ)=false
 ord:qA (uB (xP ls) ls gZ)=false
theorem zDQ(h:(qK ls).1=0):vJ ls:=by
 revert h
 unfold qK
 cases hm:mG ls ls.length 0 with
 | some i=>intro h;exact absurd (show (3:Int)=0 from h) (by decide)
 | none =>
   have hmany:=fun i (hi:i<ls.length)=>K8 ls.length 0 hm i (tq _) (by omega);simp only;unfold ZO
   cases he:nT ls ls.length 0 with
   | some i =>
     intro h;exfalso
     have h1:tT ls i=0:=h
     have:∀n i j,nT ls n i=some j->tT ls j≠0:=by
      intro n
      induction n with
      | zero=>intro i j h;simp[nT]at h
      | succ n ih=>intro i j h;rw[nT]at h;split at h
                   ·exact ih _ _ h
                   ·rename_i zEB;obtain rfl:=Option.some.inj h;exact zEB
     exact this _ _ _ he h1
   | none =>
     have herr:=fun i (hi:i<ls.length)=>Cb ls.length 0 he i (tq _) (by omega);simp only;unfold wT;intro h
     cases hr:qA (uE (zN ls) ls gZ) with
     | true=>rw[hr,tg rfl]at h;exact absurd (show (7:Int)=0 from h) (by decide)
     | false =>
       rw[hr,t7 (by decide)]at h
       cases hs:qA (uB (xP ls) ls gZ) with
       | true=>rw[hs,tg rfl]at h;exact absurd (show (7:Int)=0 from h) (by decide)
       | false=>exact⟨hmany,herr,hr,hs⟩
theorem vJ.rules(h:vJ ls):xI 3 ls<=8:=BT h.many
theorem Z8(ls:List zE):(zN ls).length<=xI 3 ls:=by have:=(YF ls [] (by simp)).2.2;simpa[zN] using this
theorem vJ.heads(h:vJ ls):(zN ls).length<=8:=tr (Z8 ls) h.rules
theorem Bw(ls:List zE)(nm:Bs):nm∈zN ls ↔ kO ls nm=true:=by
 have:=(YF ls [] (by simp)).2.1 nm;unfold zN kO;simpa using this
theorem Jl(l:List Bs)(nm:Bs):0<=zJ l nm ↔ nm∈l:=by
 have:=cU nm l 0;unfold zJ;constructor
 ·intro h;exact Classical.not_not.1 fun hn=>by have:=this.2 hn;omega
 ·intro h;rcases cb (uW nm l 0) 0 with h1|h1
  ·exact absurd h (this.1 h1)
  ·exact h1
theorem DL(ls:List zE)(nm:Bs):nm∈uF ls ↔ (vP ls 1 nm=true\/vP ls 2 nm=true):=by
 rw[fX];simp only[p7,mu,vP,me,rX,pr,pu];constructor
 ·rintro⟨x,⟨h1,h2|h2⟩,h3⟩
  ·exact .inl ⟨x,h1,h2,h3⟩
  ·exact .inr ⟨x,h1,h2,h3⟩
 ·rintro(⟨x,h1,h2,h3⟩|⟨x,h1,h2,h3⟩)
  ·exact⟨x,⟨h1,.inl h2⟩,h3⟩
  ·exact⟨x,⟨h1,.inr h2⟩,h3⟩
theorem Xu(h:x∈ls):∃i,i<ls.length/\lA ls i=x:=by
 obtain⟨i,hi,rfl⟩:=List.getElem_of_mem h;exact⟨i,hi,by simp[lA,List.getD,hi]⟩
theorem vJ.sums(h:vJ ls)(hx:x∈ls)(hk:x.kind=3):x.sum.length<=4/\∀p∈x.sum,p.starred=true->p.num<=9:=by
 obtain⟨i,hi,rfl⟩:=Xu hx;have he:=h.many i hi;unfold qW Zk jI at he;rw[tl hk,mh,ll,ll,ll,ll]at he;obtain⟨-,-,-,h1,h2⟩:=he;refine⟨by have:=of_decide_eq_false h1;omega,fun p hp hs=>?_⟩;have:=List.any_eq_false.1 h2 p hp;unfold kX at this;rw[hs]at this;simpa using this
theorem vJ.labs(h:vJ ls):(xP ls).Nodup:=by
 refine KJ ls fun i hi hk=>?_;have he:=h.err i hi;unfold tT at he;rw[t7 (by omega),t7 (by omega),tg hk]at he;unfold mA at he
 cases hc:vP (ls.take i) 3 (lA ls i).name with
 | false=>rfl
 | true=>rw[hc,d8,tg rfl]at he;exact absurd he (by decide)
structure jZ where
 n:Nat
 head:Nat->Nat
 abv:Nat->Nat->Bool
 app:Nat->(Nat->Bool)->Bool
 sum:Nat->(Nat->Int)->Int
 lev:Nat->Nat
 nm:Nat->Nat->Prop
 happ:∀r f g,r<n->(∀c,nm r c->f c=g c)->app r f=app r g
 hsum:∀r f g,r<n->(∀c,nm r c->f c=g c)->sum r f=sum r g
 hlev:∀r c,r<n->nm r c->lev c<lev (head r)
 habv:∀k r,k<n->r<n->abv k r=true->head k=head r
def qL(A:jZ)(on:Nat->Bool)(r:Nat):Bool:=(List.range A.n).any fun k=>on k&&A.abv k r
def eA(A:jZ)(on:Nat->Bool)(r:Nat):Int:=if on r then (if qL A on r then 1 else 2) else 0
def xE(A:jZ)(on:Nat->Bool)(c:Nat):List Nat:=(List.range A.n).filter fun r=>decide (A.head r=c)&&(on r && !qL A on r)
def cO:List Nat->Int
 | []=>0
 | [_]=>1
 | _=>2
def oF(f:Nat->Int):List Nat->Int
 | [r]=>f r
 | _=>0
def rT(A:jZ)(on:Nat->Bool)(c:Nat):Int:=cO (xE A on c)
def jf(A:jZ)(has:Nat->Bool):Nat->Bool:=fun c=>decide (rT A (fun r=>A.app r has) c=1)
def Ud(A:jZ)(has:Nat->Bool)(val:Nat->Int):Nat->Int:=fun c=>oF (fun r=>A.sum r val) (xE A (fun r=>A.app r has) c)
def pZ(A:jZ):Nat->Nat->Bool
 | 0=>fun _=>false
 | k+1=>jf A (pZ A k)
def pY(A:jZ):Nat->Nat->Int
 | 0=>fun _=>0
 | k+1=>Ud A (pZ A k) (pY A k)
def Ye(A:jZ)(k:Nat)(r:Nat):Bool:=A.app r (pZ A k)
theorem oT(A:jZ)(hr:r<A.n)(h:∀k,k<A.n->A.head k=A.head r->f k=g k):qL A f r=qL A g r:=by
 unfold qL;rw[cp];simp only[me,ph,pr];constructor
 ·rintro⟨k,h1,h2,h3⟩;exact⟨k,h1,(h k h1 (A.habv k r h1 hr h3)) ▸ h2,h3⟩
 ·rintro⟨k,h1,h2,h3⟩;exact⟨k,h1,(h k h1 (A.habv k r h1 hr h3)).symm ▸ h2,h3⟩
theorem bR(A:jZ)(h:∀k,k<A.n->A.head k=c->f k=g k):xE A f c=xE A g c:=by
 unfold xE;apply List.filter_congr
 intro r hr;rw[ph]at hr;by_cases hc:A.head r=c
 ·rw[h r hr hc,oT A hr (fun k hk e=>h k hk (e.trans hc))]
 ·simp[hc]
theorem iZ(A:jZ)(hr:r<A.n)(h:∀k,k<A.n->A.head k=A.head r->f k=g k):eA A f r=eA A g r:=by
 unfold eA;rw[h r hr rfl,oT A hr h]
theorem gX(A:jZ)(h:r∈xE A f c):r<A.n/\A.head r=c/\f r=true/\qL A f r=false:=by
 unfold xE at h;simpa[mu] using h
theorem dB{f g:Nat->Int}{l:List Nat}(h:∀r∈l,f r=g r):oF f l=oF g l:=by
 match l with
 | []=>rfl
 | [r]=>exact h r (by simp)
 | _::_::_=>rfl
theorem tB(A:jZ):∀k c j,A.lev c<k->k<=j->pZ A j c=pZ A k c/\pY A j c=pY A k c:=by
 intro k
 induction k with
 | zero=>intro c j h;omega
 | succ k ih =>
   intro c j hc hj;obtain⟨j,rfl⟩:∃i,j=i+1:=⟨j-1,by omega⟩
   have hon:∀r,r<A.n->A.head r=c->A.app r (pZ A j)=A.app r (pZ A k):=fun r hr e=>A.happ r _ _ hr fun c' hn=>by
    have:=A.hlev r c' hr hn;rw[e]at this;exact(ih c' j (by omega) (by omega)).1
   have hs:xE A (fun r=>A.app r (pZ A j)) c=xE A (fun r=>A.app r (pZ A k)) c:=bR A hon;constructor
   ·show decide (cO (xE A (fun r=>A.app r (pZ A j)) c)=1)=decide (cO (xE A (fun r=>A.app r (pZ A k)) c)=1)
    rw[hs]
   ·simp only[pY,Ud]
    rw[hs];refine dB fun r hr=>?_;obtain⟨h1,h2,_,_⟩:=gX A hr
    exact A.hsum r _ _ h1 fun c' hn=>by
     have:=A.hlev r c' h1 hn;rw[h2]at this;exact(ih c' j (by omega) (by omega)).2
theorem sZ(A:jZ){k j:Nat}(hr:r<A.n)(hk:A.lev (A.head r)<=k)(hj:k<=j):Ye A j r=Ye A k r :=
 A.happ r _ _ hr fun c hn=>by
  have:=A.hlev r c hr hn;exact(tB A k c j (by omega) hj).1
structure vG where
 has:Nat->Bool
 val:Nat->Int
 ap:Nat->Bool
 vd:Nat->Int
 st:Nat->Int
 av:Nat->Int
def h0:vG:=⟨fun _=>false,fun _=>0,fun _=>false,fun _=>0,fun _=>0,fun _=>0⟩
def vQ(A:jZ)(c:Nat)(s:vG):vG :=
 let ap':=fun r=>if A.head r=c then A.app r s.has else s.ap r
 let l:=xE A ap' c
 { has:=fun x=>if x=c then (if l.length=1 then true else s.has x) else s.has x
   val:=fun x=>if x=c then (if l.length=1 then oF (fun r=>A.sum r s.val) l else s.val x) else s.val x
   ap:=ap'
   vd:=fun r=>if A.head r=c then (if ap' r then (if qL A ap' r then 1 else 2) else s.vd r) else s.vd r
   st:=fun x=>if x=c then (if l.length=0 then s.st x else cO l) else s.st x
   av:=fun x=>if x=c then (if l.length=1 then oF (fun r=>A.sum r s.val) l else s.av x) else s.av x }
structure kB(A:jZ)(S:Nat->Prop)(s:vG):Prop where
 has:∀c,(S c->s.has c=pZ A (A.lev c+1) c)/\(¬S c->s.has c=false)
 val:∀c,(S c->s.val c=pY A (A.lev c+1) c)/\(¬S c->s.val c=0)
 ap:∀r,r<A.n->(S (A.head r)->s.ap r=Ye A (A.lev (A.head r)) r)/\(¬S (A.head r)->s.ap r=false)
 vd:∀r,r<A.n->(S (A.head r)->s.vd r=eA A (Ye A (A.lev (A.head r))) r)/\(¬S (A.head r)->s.vd r=0)
 st:∀c,(S c->s.st c=rT A (Ye A (A.lev c)) c)/\(¬S c->s.st c=0)
 av:∀c,(S c->s.av c=pY A (A.lev c+1) c)/\(¬S c->s.av c=0)
theorem jq(A:jZ):kB A (fun _=>False) h0:=by
 constructor <;> intros <;> exact⟨fun h=>h.elim,fun _=>rfl⟩
theorem aC{l:List Nat}:cO l=1 ↔ l.length=1:=by
 match l with
 | []=>simp[cO]
 | [r]=>simp[cO]
 | _::_::_=>simp[cO]
theorem wB{f:Nat->Int}{l:List Nat}(h:l.length≠1):oF f l=0:=by
 match l with
 | []=>rfl
 | [r]=>simp at h
 | _::_::_=>rfl
theorem Y0(A:jZ){S:Nat->Prop}{s:vG}(h:kB A S s)(hc:¬S c)(hl:∀c',A.lev c'<A.lev c->(∃r,r<A.n/\A.nm r c')->S c'):kB A (fun x=>S x\/x=c) (vQ A c s):=by
 have happ:∀r,r<A.n->A.head r=c->A.app r s.has=Ye A (A.lev c) r:=fun r hr e=>A.happ r _ _ hr fun c' hn=>by
  have h1:=A.hlev r c' hr hn;rw[e]at h1;rw[(h.has c').1 (hl c' h1 ⟨r,hr,hn⟩)];exact(tB A (A.lev c'+1) c' (A.lev c) (by omega) (by omega)).1.symm
 have hsum:∀r,r<A.n->A.head r=c->A.sum r s.val=A.sum r (pY A (A.lev c)):=fun r hr e=>A.hsum r _ _ hr fun c' hn=>by
  have h1:=A.hlev r c' hr hn;rw[e]at h1;rw[(h.val c').1 (hl c' h1 ⟨r,hr,hn⟩)];exact(tB A (A.lev c'+1) c' (A.lev c) (by omega) (by omega)).2.symm
 have hs:xE A (fun r=>if A.head r=c then A.app r s.has else s.ap r) c=xE A (Ye A (A.lev c)) c:=bR A fun k hk e=>by simp only[e,if_true];exact happ k hk e
 have hb:∀r,r<A.n->A.head r=c->qL A (fun r=>if A.head r=c then A.app r s.has else s.ap r) r=qL A (Ye A (A.lev c)) r:=fun r hr e=>oT A hr fun k hk e2=>by simp only[e2.trans e,if_true];exact happ k hk (e2.trans e)
 have hv:oF (fun r=>A.sum r s.val) (xE A (Ye A (A.lev c)) c)=pY A (A.lev c+1) c:=by
  simp only[pY,Ud]
  exact dB fun r hr=>by
   obtain⟨h1,h2,_,_⟩:=gX A hr;exact hsum r h1 h2
 have hh:pZ A (A.lev c+1) c=decide ((xE A (Ye A (A.lev c)) c).length=1):=by
  simp only[pZ,jf,rT];exact decide_eq_decide.2 aC
 have hx:∀c',c'≠c->((S c'\/c'=c) ↔ S c'):=fun c' zEB=>⟨fun h=>h.resolve_right zEB,.inl⟩;constructor
 ·intro x
  simp only[vQ];by_cases e:x=c
  ·subst e
   refine⟨fun _=>?_,fun hn=>absurd (.inr rfl) hn⟩;rw[tg rfl,hs,hh];by_cases k:(xE A (Ye A (A.lev x)) x).length=1
   ·rw[tg k,tl k]
   ·rw[t7 k,tm k];exact(h.has x).2 hc
  ·rw[t7 e,hx x e];exact h.has x
 ·intro x
  simp only[vQ];by_cases e:x=c
  ·subst e
   refine⟨fun _=>?_,fun hn=>absurd (.inr rfl) hn⟩;rw[tg rfl,hs,<-hv];by_cases k:(xE A (Ye A (A.lev x)) x).length=1
   ·rw[tg k]
   ·rw[t7 k,wB k];exact(h.val x).2 hc
  ·rw[t7 e,hx x e];exact h.val x
 ·intro r hr
  simp only[vQ];by_cases e:A.head r=c
  ·rw[tg e]
   refine⟨fun _=>?_,fun hn=>absurd (.inr e) hn⟩;rw[happ r hr e,e]
  ·rw[t7 e,hx _ e];exact h.ap r hr
 ·intro r hr
  simp only[vQ];by_cases e:A.head r=c
  ·refine⟨fun _=>?_,fun hn=>absurd (Or.inr e) hn⟩
   have h9:(if A.head r=c then A.app r s.has else s.ap r)=Ye A (A.lev c) r:=by rw[tg e,happ r hr e]
   rw[hb r hr e,tg e,show A.lev (A.head r)=A.lev c by rw[e]];unfold eA;by_cases k:Ye A (A.lev c) r=true
   ·rw[tg k,tg (h9.trans k)]
   ·rw[t7 k,t7 (fun x=>k (h9.symm.trans x))];exact(h.vd r hr).2 (by rw[e];exact hc)
  ·rw[t7 e,hx _ e];exact h.vd r hr
 ·intro x
  simp only[vQ];by_cases e:x=c
  ·subst e
   refine⟨fun _=>?_,fun hn=>absurd (.inr rfl) hn⟩;rw[tg rfl,hs];unfold rT;by_cases k:(xE A (Ye A (A.lev x)) x).length=0
   ·rw[tg k,ml k,(h.st x).2 hc];rfl
   ·rw[t7 k]
  ·rw[t7 e,hx x e];exact h.st x
 ·intro x
  simp only[vQ];by_cases e:x=c
  ·subst e
   refine⟨fun _=>?_,fun hn=>absurd (.inr rfl) hn⟩;rw[tg rfl,hs,<-hv];by_cases k:(xE A (Ye A (A.lev x)) x).length=1
   ·rw[tg k]
   ·rw[t7 k,wB k];exact(h.av x).2 hc
  ·rw[t7 e,hx x e];exact h.av x
def mP(A:jZ)(H l:Nat):Nat->Nat->vG->vG
 | 0,_,s=>s
 | f+1,i,s=>mP A H l f (i+1) (if A.lev i=l then vQ A i s else s)
def yX(A:jZ)(H:Nat):Nat->Nat->vG->vG
 | 0,_,s=>s
 | f+1,l,s=>yX A H f (l+1) (mP A H l H 0 s)
theorem kB.same{A:jZ}{S T:Nat->Prop}{s:vG}(h:kB A S s)(e:∀x,S x ↔ T x):kB A T s:=by
 obtain rfl:S=T:=funext fun x=>propext (e x);exact h
theorem Fa(A:jZ)(H l:Nat)(hn:∀r c,r<A.n->A.nm r c->c<H):∀f i s,i+f=H->kB A (fun x=>x<H/\(A.lev x<l\/A.lev x=l/\x<i)) s->kB A (fun x=>x<H/\A.lev x<l+1) (mP A H l f i s):=by
 intro f
 induction f with
 | zero=>intro i s hi h;exact h.same fun x=>by constructor <;> intro hx <;> omega
 | succ f ih =>
   intro i s hi h;rw[mP];refine ih (i+1) _ (by omega) ?_;by_cases e:A.lev i=l
   ·rw[tg e]
    refine(Y0 A h (c:=i) (by omega) ?_).same fun x=>?_
    ·rintro c' hc ⟨r,hr,hnm⟩
     exact⟨hn r c' hr hnm,.inl (by omega)⟩
    ·constructor
     ·rintro(h1|h1)
      ·omega
      ·subst h1;exact⟨by omega,.inr ⟨e,by omega⟩⟩
     ·rintro⟨h1,h2⟩
      by_cases k:x=i
      ·exact .inr k
      ·exact .inl ⟨h1,by omega⟩
   ·rw[t7 e]
    refine h.same fun x=>?_;constructor
    ·intro hx;omega
    ·rintro⟨h1,h2⟩
     refine⟨h1,?_⟩;rcases h2 with h2|⟨h2,h3⟩
     ·exact .inl h2
     ·refine .inr ⟨h2,?_⟩
      rcases pf x i with h4|h4
      ·exact h4
      ·obtain rfl:x=i:=by omega
       exact absurd h2 e
theorem B5(A:jZ)(H:Nat)(hn:∀r c,r<A.n->A.nm r c->c<H):∀f l s,l+f=H->kB A (fun x=>x<H/\A.lev x<l) s->kB A (fun x=>x<H/\A.lev x<H) (yX A H f l s):=by
 intro f
 induction f with
 | zero=>intro l s hl h;exact h.same fun x=>by constructor <;> intro hx <;> omega
 | succ f ih =>
   intro l s hl h;rw[yX];refine ih (l+1) _ (by omega) ?_;exact Fa A H l hn H 0 s (by omega) (h.same fun x=>by constructor <;> intro hx <;> omega)
theorem YE(A:jZ)(H:Nat)(hn:∀r c,r<A.n->A.nm r c->c<H)(hl:∀c,c<H->A.lev c<H)(hh:∀r,r<A.n->A.head r<H)(n:Nat)(hN:n+1=H) :
 (∀r,r<A.n->(yX A H H 0 h0).vd r=eA A (Ye A n) r)/\(∀c,c<H->(yX A H H 0 h0).st c=rT A (Ye A n) c/\(yX A H H 0 h0).av c=pY A H c):=by
 have h:=B5 A H hn H 0 h0 (by omega) ((jq A).same fun x=>⟨False.elim,fun hx=>by omega⟩);generalize yX A H H 0 h0=s at *;constructor
 ·intro r hr
  have h1:=hl _ (hh r hr);rw[(h.vd r hr).1 ⟨hh r hr,h1⟩];exact iZ A hr fun k hk e=>(sZ A hk (show A.lev (A.head k)<=A.lev (A.head r) by rw[e];omega) (show A.lev (A.head r)<=n by omega)).symm
 ·intro c hc
  have h1:=hl c hc;rw[(h.st c).1 ⟨hc,h1⟩,(h.av c).1 ⟨hc,h1⟩];constructor
  ·unfold rT
   rw[bR A fun k hk e=>(sZ A hk (show A.lev (A.head k)<=A.lev c by rw[e];omega) (show A.lev c<=n by omega)).symm]
  ·exact(tB A (A.lev c+1) c H (by omega) (by omega)).2.symm
def kE:Nat->Int
 | 0=>9999
 | k+1=>36*kE k
theorem cK:∀k,9999<=kE k:=by
 intro k
 induction k with
 | zero=>exact mp _
 | succ k ih=>rw[kE];omega
theorem Dv:∀k,k<=8->kE k<=28208277964652544:=by
 intro k hk;have:k=0\/k=1\/k=2\/k=3\/k=4\/k=5\/k=6\/k=7\/k=8:=by omega
 rcases this with rfl|rfl|rfl|rfl|rfl|rfl|rfl|rfl|rfl <;> decide
theorem JL(A:jZ)(hs:∀r (f:Nat->Int) (B:Int),r<A.n->9999<=B->(∀c,-B<=f c/\f c<=B) -> -(36*B)<=A.sum r f/\A.sum r f<=36*B):∀k c,-(kE k)<=pY A k c/\pY A k c<=kE k:=by
 intro k
 induction k with
 | zero=>intro c;show -(9999:Int)<=0/\(0:Int)<=9999;exact⟨by decide,by decide⟩
 | succ k ih =>
   intro c;have hk:=cK k;rw[pY,Ud,kE];generalize hl:xE A (fun r=>A.app r (pZ A k)) c=l
   match l,hl with
   | [],_=>exact⟨by show -(36*kE k)<=0;omega,by show (0:Int)<=36*kE k;omega⟩
   | [r],hl =>
     have hr:=(gX A (show r∈xE A (fun r=>A.app r (pZ A k)) c by rw[hl];simp)).1;exact hs r (pY A k) (kE k) hr hk ih
   | _::_::_,_=>exact⟨by show -(36*kE k)<=0;omega,by show (0:Int)<=36*kE k;omega⟩
def dW(ls:List zE):List zE:=ls.filter fun x=>decide (x.kind=3)
theorem Zr(ls:List zE):xP ls=(dW ls).map zE.name:=by
 have key:∀(ls:List zE) acc,uO ls acc=acc++(ls.filter fun x=>decide (x.kind=3)).map zE.name:=by
  intro ls
  induction ls with
  | nil=>intro acc;simp[uO]
  | cons x r ih=>intro acc;rw[uO,ih];by_cases h:x.kind=3 <;> simp[h]
 unfold xP dW;rw[key];simp
theorem sW(ins cs:List Bs)(ls:List zE):kJ ins cs ls=(dW ls).map (jB ins cs):=by
 unfold kJ dW;rw[UY];simp
theorem Kb(h:x∈dW ls):x∈ls/\x.kind=3:=by
 have:=mu.1 h;exact⟨this.1,by simpa using this.2⟩
theorem Kc(ls:List zE):(dW ls).length=xI 3 ls:=by
 unfold dW
 induction ls with
 | nil=>rfl
 | cons x r ih=>rw[xI];by_cases h:x.kind=3 <;> simp[h,ih];omega
theorem Do(h:r<(dW ls).length):(dW ls).getD r wX∈dW ls:=by simp[List.getD,h]
theorem X0(H:Nat)(f:Nat->Bool)(a:Int):tH ((List.range H).map f) a=(decide (0<=a)&&(decide (a<H)&&f a.toNat)):=by
 unfold tH;by_cases h0:0<=a
 ·by_cases h1:a<H
  ·rw[tl h0,tl h1]
   simp only[pi,List.length_range,tl h1,mh];simp[List.getD,show a.toNat<H by omega]
  ·rw[tm h1]
   simp only[pi,List.length_range,tm h1,bp]
 ·rw[tm h0];rfl
theorem Zd(H:Nat)(f:Nat->Int)(a:Int):qV ((List.range H).map f) a=if 0<=a/\a<H then f a.toNat else 0:=by
 unfold qV;simp only[pi,List.length_range];by_cases h:0<=a/\a<H
 ·rw[tg h,tg h];simp[List.getD,show a.toNat<H by omega]
 ·rw[t7 h,t7 h]
def zDA(r:tX)(c:Nat):Prop:=(∃p∈r.sum,p.kind=3/\p.place=(c:Int))\/∃y∈r.guard,y.kind=5/\y.place=(c:Int)
theorem ZV(r:tX)(H:Nat)(inp v v':List Int)(f g:Nat->Bool)(h:∀c,zDA r c->f c=g c):iD r ⟨inp,(List.range H).map f,v⟩=iD r ⟨inp,(List.range H).map g,v'⟩:=by
 have hT:∀a:Int,(∀c:Nat,a=(c:Int)->zDA r c)->tH ((List.range H).map f) a=tH ((List.range H).map g) a:=fun a ha=>by
  rw[X0,X0];by_cases h0:0<=a
  ·rw[h a.toNat (ha a.toNat (by omega))]
  ·rw[tm h0];rfl
 have h1:jU ⟨inp,(List.range H).map f,v⟩ r.sum=jU ⟨inp,(List.range H).map g,v'⟩ r.sum:=by
  unfold jU
  exact Cp fun p hp=>by
   by_cases k:p.kind=3
   ·rw[hT p.place fun c e=>.inl ⟨p,hp,k,e⟩]
   ·rw[tm k];rfl
 have h2:∀(N:List jQ) hs,(∀y∈N,y∈r.guard)->dP ⟨inp,(List.range H).map f,v⟩ N hs=dP ⟨inp,(List.range H).map g,v'⟩ N hs:=by
  intro N
  induction N with
  | nil=>intro hs _;rfl
  | cons y t ih =>
    intro hs hy;rw[dP,dP]
    have e:K2 y ⟨inp,(List.range H).map f,v⟩ hs=K2 y ⟨inp,(List.range H).map g,v'⟩ hs:=by
     unfold K2;by_cases k:y.kind=5
     ·simp only[k]
      exact hT y.place fun c e=>.inr ⟨y,hy y (by simp),k,e⟩
     ·simp only[k,if_false];rfl
    rw[e];exact ih _ fun z hz=>hy z (by simp[hz])
 unfold iD;rw[h1,h2 r.guard [] fun y hy=>hy]
theorem wO(r:tX)(H:Nat)(inp:List Int)(v v':List Bool)(f g:Nat->Int)(h:∀c,zDA r c->f c=g c):rB ⟨inp,v,(List.range H).map f⟩ r.sum=rB ⟨inp,v',(List.range H).map g⟩ r.sum:=by
 have key:∀(l:List mK) n,(∀p∈l,p∈r.sum)->mU ⟨inp,v,(List.range H).map f⟩ l n=mU ⟨inp,v',(List.range H).map g⟩ l n:=by
  intro l
  induction l with
  | nil=>intro n _;rfl
  | cons p t ih =>
    intro n hp;rw[mU,mU]
    have e:mC ⟨inp,v,(List.range H).map f⟩ p=mC ⟨inp,v',(List.range H).map g⟩ p:=by
     unfold mC;by_cases k:p.kind=3
     ·simp only[k]
      rw[Zd,Zd];by_cases h0:0<=p.place/\p.place<H
      ·rw[tg h0,tg h0,h p.place.toNat (.inl ⟨p,hp p (by simp),k,by omega⟩)]
      ·rw[t7 h0,t7 h0]
     ·simp only[k,if_false]
    rw[e];exact ih _ fun z hz=>hp z (by simp[hz])
 exact key r.sum 0 fun p hp=>hp
theorem Qs(h:vJ ls)(hx:x∈ls)(hk:x.kind=3){a:Nat}(ha:a<(xP ls).length)(e:x.name=(xP ls).getD a []):(dW ls).getD a wX=x:=by
 have hx2:x∈dW ls:=mu.2 ⟨hx,by simpa using hk⟩;obtain⟨b,hb,rfl⟩:=List.getElem_of_mem hx2;have hl:(xP ls).length=(dW ls).length:=by rw[Zr];simp
 have e2:(xP ls).getD b []=(xP ls).getD a []:=by
  rw[<-e,Zr];simp[List.getD,hb]
 have:=Ky h.labs (show b<_ by omega) ha e2;subst this;simp[List.getD,hb]
theorem V6(h:vJ ls){i k:Nat}(hg:gA (zR (uB (xP ls) ls gZ)) i k=true)(hi:i<8)(hk:k<8):((dW ls).getD i wX).conc=((dW ls).getD k wX).conc:=by
 have hl:(uB (xP ls) ls gZ).length=64:=by rw[mE];exact yY
 refine(oR hl i k).1 ⟨hi,hk,hg⟩ (fun a b=>((dW ls).getD a wX).conc=((dW ls).getD b wX).conc) (fun a b hab=>?_) (fun _ _ _ h1 h2=>h1.trans h2);obtain⟨ha8,hb8,hgg⟩:=hab;rw[Zb _ _ ha8 hb8 _ yY,KX,lk]at hgg;obtain⟨x,hx,hxo⟩:=me.1 hgg;rw[zDS h.labs x,pr,pr,pu,pu]at hxo;obtain⟨ha,hb,hov⟩:=hxo;unfold ovX at hov;simp only[pr,pu]at hov;obtain⟨hk4,hn1,hn2⟩:=hov;obtain⟨j,hj,rfl⟩:=Xu hx;have he:=h.err j hj;unfold tT at he;rw[t7 (by omega),t7 (by omega),t7 (by omega),tg hk4]at he;unfold lR at he;by_cases h1:vT ls (lA ls j).name=ls.length\/vT ls (lA ls j).lower=ls.length
 ·rw[tg h1]at he;exact absurd he (by decide)
 ·rw[t7 h1]at he
  have zE9:vT ls (lA ls j).name<ls.length/\vT ls (lA ls j).lower<ls.length:=by
   have a1:=sG ls (lA ls j).name;have a2:=sG ls (lA ls j).lower;omega
  have hc:(lA ls (vT ls (lA ls j).name)).conc=(lA ls (vT ls (lA ls j).lower)).conc:=by
   rcases Classical.em ((lA ls j).name=(lA ls j).lower\/(lA ls (vT ls (lA ls j).name)).conc≠(lA ls (vT ls (lA ls j).lower)).conc) with h2|h2
   ·rw[tg h2]at he;exact absurd he (by decide)
   ·exact Classical.not_not.1 fun hn=>h2 (.inr hn)
  have hit:∀nm,vT ls nm<ls.length->lA ls (vT ls nm)∈ls/\(lA ls (vT ls nm)).kind=3/\(lA ls (vT ls nm)).name=nm:=fun nm zE9=>by
   have:=BS (rX 3 nm) ls 0 (by unfold vT at zE9;omega);rw[Nat.sub_zero]at this;have h3:rX 3 nm (lA ls (vT ls nm))=true:=this;unfold rX at h3;simp only[pr,pu]at h3;exact⟨by unfold lA;simp[List.getD,zE9],h3.1,h3.2⟩
  obtain⟨p1,p2,p3⟩:=hit _ zE9.1;obtain⟨q1,q2,q3⟩:=hit _ zE9.2;rw[Qs h p1 p2 ha (by rw[p3];exact hn1),Qs h q1 q2 hb (by rw[q3];exact hn2)];exact hc
def sD(ls:List zE)(r:Nat):Nat:=(zJ (zN ls) ((dW ls).getD r wX).conc).toNat
theorem nJ(h:r<(dW ls).length):zJ (zN ls) ((dW ls).getD r wX).conc=(sD ls r:Int)/\sD ls r<(zN ls).length:=by
 have hm:=Kb (Do h);have h1:0<=zJ (zN ls) ((dW ls).getD r wX).conc:=(Jl _ _).2 ((Bw _ _).2 (me.2 ⟨_,hm.1,by unfold KO;rw[tl hm.2];simp⟩));have h2:=kR (zN ls) ((dW ls).getD r wX).conc;unfold sD;omega
def fS(ls:List zE)(r:Nat):tX:=jB (uF ls) (zN ls) ((dW ls).getD r wX)
theorem K1(h:vJ ls)(hr:r<(dW ls).length)(hn:zDA (fS ls r) c):c<(zN ls).length/\bO (uE (zN ls) ls gZ) c<bO (uE (zN ls) ls gZ) (sD ls r):=by
 have h8:=h.heads;obtain⟨hm,hk⟩:=Kb (Do hr);obtain⟨hf,zE9⟩:=nJ hr;have hl:(uE (zN ls) ls gZ).length=64:=by rw[cL];exact yY
 have hc:(((dW ls).getD r wX).sum.any (fun y=>decide (zJ (zN ls) y.name=(c:Int))) || ((dW ls).getD r wX).nd.any (fun y=>decide (y.kind=5)&&decide (zJ (zN ls) y.name=(c:Int))))=true/\c<(zN ls).length:=by
  rcases hn with ⟨p,hp,k,e⟩|⟨y,hy,k,e⟩
  ·obtain⟨q,hq,rfl⟩:=p7.1 hp
   have hq3:Xr (uF ls) q=3:=k;have hqp:C1 (uF ls) (zN ls) q=(c:Int):=e;unfold Xr at hq3;unfold C1 at hqp;by_cases h0:q.name=[]
   ·rw[tg h0]at hq3;exact absurd hq3 (by decide)
   ·rw[t7 h0]at hq3 hqp
    by_cases h1:zJ (uF ls) q.name<0
    ·rw[tg h1]at hqp
     exact⟨by rw[bt];exact .inl (me.2 ⟨q,hq,by simpa using hqp⟩),by have:=kR (zN ls) q.name;omega⟩
    ·rw[t7 h1]at hq3;exact absurd hq3 (by decide)
  ·obtain⟨q,hq,rfl⟩:=p7.1 hy
   have hq5:q.kind=5:=k;have hqp:JF (uF ls) (zN ls) q=(c:Int):=e;unfold JF at hqp;rw[tg hq5]at hqp;exact⟨by rw[bt];exact .inr (me.2 ⟨q,hq,by simp[hq5,hqp]⟩),by have:=kR (zN ls) q.name;omega⟩
 refine⟨hc.2,Fb hl h.nam (by omega) (by omega) ?_⟩;rw[Zg _ _ (by omega) (by omega) _ yY,KX,lk];exact me.2 ⟨_,hm,by unfold ke;rw[hk,hf,hc.1];simp⟩
def xU(ls:List zE)(inp:List Int)(h:vJ ls):jZ where
 n:=(dW ls).length
 head:=sD ls
 abv:=gA (zR (uB (xP ls) ls gZ))
 app:=fun r f=>iD (fS ls r) ⟨inp,(List.range (zN ls).length).map f,[]⟩
 sum:=fun r f=>rB ⟨inp,[],(List.range (zN ls).length).map f⟩ (fS ls r).sum
 lev:=bO (uE (zN ls) ls gZ)
 nm:=fun r=>zDA (fS ls r)
 happ:=fun r f g _ hfg=>ZV (fS ls r) _ inp [] [] f g hfg
 hsum:=fun r f g _ hfg=>wO (fS ls r) _ inp [] [] f g hfg
 hlev:=fun r c hr hn=>(K1 h hr hn).2
 habv:=fun k r hk hr hg=>by
  have h8:(dW ls).length<=8:=by rw[Kc];exact h.rules
  unfold sD;rw[V6 h hg (by omega) (by omega)]
theorem YZ(ls:List zE)(inp:List Int)(h:vJ ls)(a b:Nat):(xU ls inp h).abv a b=gA (zR (uB (xP ls) ls gZ)) a b:=by simp only[xU]
def lD(pl:Nat->Int)(j:Nat):Nat->Nat
 | 0=>0
 | m+1=>lD pl j m+(if pl m=(j:Int) then 1 else 0)
theorem Js(pl:Nat->Int)(j:Nat){m m':Nat}(h:m<=m'):lD pl j m<=lD pl j m':=by
 induction m' with
 | zero=>obtain rfl:m=0:=by omega
         exact j1 _
 | succ k ih =>
   rcases pf m (k+1) with h1|h1
   ·rw[lD];have:=ih (by omega);omega
   ·obtain rfl:m=k+1:=by omega
    exact j1 _
structure Xc where
 name:Bs
 isNum:Bool
 value:Int
def cC(f:Xc):Value:=.agg #[.string ⟨f.name.toArray⟩,.bool f.isNum,.int .i64 f.value]
def fF(t:PT):Bool:=decide (t.k=2)&&(decide (t.s=[121,101,115]) || decide (t.s=[110,111]))
def qC(n v:PT):Xc:=if v.k=3 then ⟨n.s,true,v.v⟩ else ⟨n.s,false,if v.s=[121,101,115] then 1 else 0⟩
def mW(f:Xc)(x:zV):Bool:=if x.isFlag then !f.isNum else f.isNum&&(decide (x.low<=f.value)&&decide (f.value<=x.high))
theorem YC(w:World)(t:PT)(s:Bs):Calls Tryz.prog 130 #[Yd t,.string ⟨s.toArray⟩] w fun e w'=>e=.returned (.bool (decide (t.k=4)&&decide (t.s=s)))/\Below w.heap.size w w':=by
 obtain⟨k,x,v,p⟩:=t;simp only[Yd];by_cases k1:k=4
 ·by_cases k2:x=s
  ·have HA:Hid ((decide (k=4)&&decide (x=s))=true):=by unfold Hid;rw[tl k1,tl k2];rfl
   have b2:(x==s)=true:=by simpa using k2
   generalize (decide (k=4)&&decide (x=s))=a at *;clear k2
   go_enter Tryz.func130,Tryz.ntmps130
   go_wp2_with fail
   go_ret
   exact⟨zF HA.out.symm,da (j1 _) _⟩
  ·have HA:Hid ((decide (k=4)&&decide (x=s))=false):=by unfold Hid;rw[tm k2];simp
   have b2:(x==s)=false:=by simpa using k2
   generalize (decide (k=4)&&decide (x=s))=a at *;clear k2
   go_enter Tryz.func130,Tryz.ntmps130
   go_wp2_with fail
   go_ret
   exact⟨zF HA.out.symm,da (j1 _) _⟩
 ·have HA:Hid ((decide (k=4)&&decide (x=s))=false):=by unfold Hid;rw[tm k1];rfl
  have b1:(k==4)=false:=by simpa using k1
  generalize (decide (k=4)&&decide (x=s))=a at *;clear k1
  go_enter Tryz.func130,Tryz.ntmps130
  go_wp2_with fail
  go_ret
  exact⟨zF HA.out.symm,da (j1 _) _⟩
theorem QM(w:World)(t:PT):Calls Tryz.prog 131 #[Yd t] w fun e w'=>e=.returned (.bool (fF t))/\Below w.heap.size w w':=by
 have HA:Hid (fF t=(decide (t.k=2)&&(decide (t.s=[121,101,115]) || decide (t.s=[110,111])))):=rfl;generalize fF t=ans at *;obtain⟨k,x,v,p⟩:=t;simp only[Yd]at *;by_cases k1:k=2
 ·by_cases k2:x=[121,101,115]
  ·rw[tl k1,tl k2]at HA
   have b2:(x==[121,101,115])=true:=by simpa using k2
   clear k2
   go_enter Tryz.func131,Tryz.ntmps131
   go_wp2_with fail
   go_ret
   exact⟨zF HA.out.symm,da (j1 _) _⟩
  ·rw[tl k1,tm k2,mh,lk]at HA
   have b2:(x==[121,101,115])=false:=by simpa using k2
   have hd:decide (x=[110,111])=(x==[110,111]):=by rw[cp];simp
   rw[hd]at HA;clear k2 hd
   go_enter Tryz.func131,Tryz.ntmps131
   go_wp2_with fail
   go_ret
   exact⟨zF HA.out.symm,da (j1 _) _⟩
 ·rw[tm k1,bp]at HA
  have b1:(k==2)=false:=by simpa using k1
  clear k1
  go_enter Tryz.func131,Tryz.ntmps131
  go_wp2_with fail
  go_ret
  exact⟨zF HA.out.symm,da (j1 _) _⟩
theorem zBY(w:World)(f:Xc)(x:zV):Calls Tryz.prog 87 #[cC f,Uf x] w fun e w'=>e=.returned (.bool (mW f x))/\Below w.heap.size w w':=by
 have HA:Hid (mW f x=if x.isFlag then !f.isNum else f.isNum&&(decide (x.low<=f.value)&&decide (f.value<=x.high))):=rfl;have HB0:=zA (show ∀o1 o2,Below w.heap.size w ((w.alloc o1).alloc o2) from fun o1 o2=>(da (j1 _) _).alloc (by simp) _);generalize mW f x=ans at *;obtain⟨fn,fi,fv⟩:=f;obtain⟨xn,xf,xl,xh⟩:=x;simp only[cC,Uf]at *;cases xf
 ·simp only[Bool.false_eq_true,if_false]at HA
  cases fi
  ·simp only[bp]at HA
   go_enter Tryz.func87,Tryz.ntmps87
   go_wp2_with fail
   go_ret
   exact⟨zF HA.out.symm,HB0.out _ _⟩
  ·simp only[mh]at HA
   by_cases k1:xl<=fv
   ·rw[tl k1,mh]at HA
    go_enter Tryz.func87,Tryz.ntmps87
    go_wp2_with fail
    go_ret
    exact⟨zF HA.out.symm,HB0.out _ _⟩
   ·rw[tm k1,bp]at HA
    have k2:decide (xl<=fv)=false:=tm k1
    go_enter Tryz.func87,Tryz.ntmps87
    go_wp2_with fail
    go_ret
    exact⟨zF HA.out.symm,HB0.out _ _⟩
 ·simp only[if_true]at HA
  go_enter Tryz.func87,Tryz.ntmps87
  go_wp2_with fail
  go_ret
  exact⟨zF HA.out.symm,HB0.out _ _⟩
theorem XC:(Tryz.prog.info? 200).map (·.size)=some 3:=by kernel_rfl
theorem FN(w:World)(n v:PT):Calls Tryz.prog 85 #[Yd n,Yd v] w fun e w'=>e=.returned (cC (qC n v))/\Below w.heap.size w w':=by
 have HA:Hid (qC n v=if v.k=3 then ⟨n.s,true,v.v⟩ else ⟨n.s,false,if v.s=[121,101,115] then 1 else 0⟩):=rfl;generalize qC n v=ans at *;obtain⟨nk,ns,nv,np⟩:=n;obtain⟨vk,vs,vv,vp⟩:=v;simp only[Yd]at *;by_cases k1:vk=3
 ·rw[tg k1]at HA
  subst k1
  go_enter Tryz.func85,Tryz.ntmps85
  go_wp2_with fail
  refine p5 (v:=cC ⟨ns,true,vv⟩) (results_cell_row Tryz.results85 _ _ (w.heap.size+1+1) 200 #[.string ⟨ns.toArray⟩,.bool true,.int .i64 vv] (0,0) _ rfl (by repeat (with_reducible first|(refine vV _ _ _ ?_;simp;done)|refine zZ ?_)) Tryz.underlying200 rfl XC) rfl ⟨by rw[HA.out],(((da (j1 _) _).alloc (by simp) _).alloc (by simp;omega) _)⟩
 ·rw[t7 k1]at HA
  have b1:(vk==3)=false:=by simpa using k1
  clear k1;by_cases k2:vs=[121,101,115]
  ·rw[tg k2]at HA
   have b2:(vs==[121,101,115])=true:=by simpa using k2
   clear k2
   go_enter Tryz.func85,Tryz.ntmps85
   go_wp2_with fail
   refine p5 (v:=cC ⟨ns,false,1⟩) (results_cell_row Tryz.results85 _ _ (w.heap.size+1+1) 200 #[.string ⟨ns.toArray⟩,.bool false,.int .i64 1] (0,0) _ rfl (by repeat (with_reducible first|(refine vV _ _ _ ?_;simp;done)|refine zZ ?_)) Tryz.underlying200 rfl XC) rfl ⟨by rw[HA.out],((((da (j1 _) _).alloc (by simp) _).alloc (by simp;omega) _).alloc (by simp;omega) _)⟩
  ·rw[t7 k2]at HA
   have b2:(vs==[121,101,115])=false:=by simpa using k2
   clear k2
   go_enter Tryz.func85,Tryz.ntmps85
   go_wp2_with fail
   refine p5 (v:=cC ⟨ns,false,0⟩) (results_cell_row Tryz.results85 _ _ (w.heap.size+1+1) 200 #[.string ⟨ns.toArray⟩,.bool false,.int .i64 0] (0,0) _ rfl (by repeat (with_reducible first|(refine vV _ _ _ ?_;simp;done)|refine zZ ?_)) Tryz.underlying200 rfl XC) rfl ⟨by rw[HA.out],((((da (j1 _) _).alloc (by simp) _).alloc (by simp;omega) _).alloc (by simp;omega) _)⟩
def J0(t:PT)(i:Nat):Bool :=
 if i%4=0 then decide (t.k=2) else if i%4=1 then decide (t.k=4)&&decide (t.s=[61])
 else if i%4=2 then decide (t.k=3) || fF t else decide (t.k=4)&&decide (t.s=[59])
def dT(P:List PT):Nat->Nat->Bool
 | 0,_=>false
 | n+1,i=>if i%4=0/\(yJ P i).k=0 then true else J0 (yJ P i) i&&dT P n (i+1)
def bF(P:List PT):Bool:=dT P P.length 0
def jF(P:List PT)(I:List zV):Nat->Nat->List Int × List Bool->Option (List Int × List Bool)
 | 0,_,st=>some st
 | n+1,i,st =>
   if i*4+4<P.length then
    (if zJ (I.map zV.name) (qC (yJ P (i*4)) (yJ P (i*4+2))).name<0 then none
     else if st.2.getD (zJ (I.map zV.name) (qC (yJ P (i*4)) (yJ P (i*4+2))).name).toNat false=true then none
     else if mW (qC (yJ P (i*4)) (yJ P (i*4+2))) (I.getD (zJ (I.map zV.name) (qC (yJ P (i*4)) (yJ P (i*4+2))).name).toNat eX)=false then none
     else jF P I n (i+1) (st.1.set (zJ (I.map zV.name) (qC (yJ P (i*4)) (yJ P (i*4+2))).name).toNat (qC (yJ P (i*4)) (yJ P (i*4+2))).value,st.2.set (zJ (I.map zV.name) (qC (yJ P (i*4)) (yJ P (i*4+2))).name).toNat true))
   else some st
def yQ(I:List zV)(f:Bs):List Int × Int :=
 if 300<f.length then ([],1)
 else if bF (mM f)=false then ([],2)
 else match jF (mM f) I (mM f).length 0 (List.replicate I.length 0,List.replicate I.length false) with
  | none=>([],10)
  | some st=>if st.2.all id then (st.1,0) else ([],10)
def Yo(f:Bs)(i:Nat):Xc:=qC (yJ (mM f) (i*4)) (yJ (mM f) (i*4+2))
def kL(I:List zV)(f:Bs)(i:Nat):Int:=zJ (I.map zV.name) (Yo f i).name
def FH(I:List zV)(f:Bs)(i:Nat):Prop:=mW (Yo f i) (I.getD (kL I f i).toNat eX)=true
theorem Qm{α:Type}(l:List α)(i j:Nat)(x d:α)(hi:i<l.length):(l.set i x).getD j d=if j=i then x else l.getD j d:=by
 unfold List.getD;rw[List.getElem?_set];by_cases h:i=j
 ·subst h;simp[hi]
 ·rw[t7 h,t7 (fun e=>h e.symm)]
structure XN(I:List zV)(f:Bs)(i:Nat)(st:List Int × List Bool):Prop where
 l1:st.1.length=I.length
 l2:st.2.length=I.length
 giv:∀j,j<I.length->(st.2.getD j false=true ↔ lD (kL I f) j i=1)/\lD (kL I f) j i<=1
 val:∀(k j:Nat),k<i->kL I f k=(j:Int)->st.1.getD j 0=(Yo f k).value
 ok:∀k,k<i->0<=kL I f k/\FH I f k
theorem zAT(I:List zV)(f:Bs)(i:Nat):kL I f i<I.length:=by have:=kR (I.map zV.name) (Yo f i).name;unfold kL;simpa using this.2
def UF(I:List zV)(f:Bs)(m:Nat):Prop:=(∀k,k<m->0<=kL I f k/\FH I f k)/\∀j,j<I.length->lD (kL I f) j m=1
theorem Dp(I:List zV)(f:Bs)(m:Nat)(hm:(vC f 0).length=4*m):∀n i st,m+1<=n+i->i<=m->XN I f i st ->
 (∃st',jF (mM f) I n i st=some st'/\XN I f m st')\/(jF (mM f) I n i st=none/\¬UF I f m):=by
 have hl:=pU f;intro n
 induction n with
 | zero=>intro i st h1 h2;omega
 | succ n ih =>
   intro i st h1 h2 zET;rw[jF];by_cases zE9:i<m
   ·rw[tg (by omega)]
    have hpl:=zAT I f i;by_cases k1:kL I f i<0
    ·refine .inr ⟨tg k1,fun hh=>?_⟩
     have:=(hh.1 i zE9).1;omega
    ·by_cases k2:st.2.getD (kL I f i).toNat false=true
     ·refine .inr ⟨(t7 k1).trans (tg k2),fun hh=>?_⟩
      have h3:=((zET.giv (kL I f i).toNat (by omega)).1).1 k2;have h4:=hh.2 (kL I f i).toNat (by omega);have h5:lD (kL I f) (kL I f i).toNat (i+1)<=lD (kL I f) (kL I f i).toNat m:=Js _ _ (by omega);rw[lD,tg (by omega)]at h5;omega
     ·by_cases k3:mW (Yo f i) (I.getD (kL I f i).toNat eX)=false
      ·refine .inr ⟨(t7 k1).trans ((t7 k2).trans (tg k3)),fun hh=>?_⟩
       have:=(hh.1 i zE9).2;unfold FH at this;rw[k3]at this;cases this
      ·have hc0:lD (kL I f) (kL I f i).toNat i=0:=by
        have a:=zET.giv (kL I f i).toNat (by omega);have b:¬lD (kL I f) (kL I f i).toNat i=1:=fun e=>k2 (a.1.2 e);have:=a.2;omega
       have hnext:XN I f (i+1) (st.1.set (kL I f i).toNat (Yo f i).value,st.2.set (kL I f i).toNat true):=by
        refine⟨by simp[zET.l1],by simp[zET.l2],fun j hj=>?_,fun k j hk hkj=>?_,fun k hk=>?_⟩
        ·have h9:=zET.giv j hj
         simp only;rw[Qm _ _ _ _ _ (by rw[zET.l2];omega),lD];by_cases e:j=(kL I f i).toNat
         ·rw[tg e,tg (by omega),e,hc0];simp
         ·rw[t7 e,t7 (by omega)];exact h9
        ·simp only
         rw[Qm _ _ _ _ _ (by rw[zET.l1];omega)];rcases pf k i with h7|h7
         ·by_cases e:j=(kL I f i).toNat
          ·exfalso
           have:1<=lD (kL I f) j i:=by
            have h8:lD (kL I f) j (k+1)<=lD (kL I f) j i:=Js _ _ (by omega);rw[lD,tg hkj]at h8;omega
           rw[e]at this;omega
          ·rw[t7 e];exact zET.val k j h7 hkj
         ·obtain rfl:k=i:=by omega
          rw[tg (by omega)]
        ·rcases pf k i with h7|h7
         ·exact zET.ok k h7
         ·obtain rfl:k=i:=by omega
          exact⟨by omega,by unfold FH;cases hx:mW (Yo f k) (I.getD (kL I f k).toNat eX) with|true=>rfl|false=>exact absurd hx k3⟩
       have:=ih (i+1) _ (by omega) (by omega) hnext;rcases this with ⟨st',e1,e2⟩|⟨e1,e2⟩
       ·exact .inl ⟨st',(t7 k1).trans ((t7 k2).trans ((t7 k3).trans e1)),e2⟩
       ·exact .inr ⟨(t7 k1).trans ((t7 k2).trans ((t7 k3).trans e1)),e2⟩
   ·obtain rfl:i=m:=by omega
    rw[t7 (by omega)];exact .inl ⟨st,rfl,zET⟩
theorem zCA(l:List Bool):l.all id=true ↔ ∀j,j<l.length->l.getD j false=true:=by
 rw[List.all_eq_true];constructor
 ·intro h j hj;have:=h (l.getD j false) (by simp[List.getD,hj]);simpa using this
 ·intro h x hx
  obtain⟨j,hj,rfl⟩:=List.getElem_of_mem hx;have:=h j hj;simpa[List.getD,hj] using this
theorem Dq(I:List zV)(f:Bs)(m:Nat)(hm:(vC f 0).length=4*m) :
 (UF I f m->∃L,(match jF (mM f) I (mM f).length 0 (List.replicate I.length 0,List.replicate I.length false) with|none=>(([],10):List Int × Int)|some st=>if st.2.all id then (st.1,0) else ([],10))=(L,0)/\L.length=I.length/\∀(k j:Nat),k<m->kL I f k=(j:Int)->L.getD j 0=(Yo f k).value) /\
 (¬UF I f m->(match jF (mM f) I (mM f).length 0 (List.replicate I.length 0,List.replicate I.length false) with|none=>(([],10):List Int × Int)|some st=>if st.2.all id then (st.1,0) else ([],10))=([],10)):=by
 have hl:=pU f
 have h0:XN I f 0 (List.replicate I.length 0,List.replicate I.length false):=by
  refine⟨by simp,by simp,fun j hj=>?_,fun k j hk=>by omega,fun k hk=>by omega⟩;simp[lD,List.getD,hj]
 rcases Dp I f m hm (mM f).length 0 _ (by omega) (tq _) h0 with ⟨st,e1,e2⟩|⟨e1,e2⟩
 ·rw[e1]
  simp only
  have hall:st.2.all id=true ↔ ∀j,j<I.length->lD (kL I f) j m=1:=by
   rw[zCA,e2.l2];exact⟨fun h j hj=>(e2.giv j hj).1.1 (h j hj),fun h j hj=>(e2.giv j hj).1.2 (h j hj)⟩
  constructor
  ·intro hg
   rw[tg (hall.2 hg.2)];exact⟨st.1,rfl,e2.l1,e2.val⟩
  ·intro hg
   rw[t7 (fun h=>hg ⟨e2.ok,hall.1 h⟩)]
 ·rw[e1]
  exact⟨fun hg=>absurd hg e2,fun _=>rfl⟩
theorem Zw(h:vJ ls):(uF ls).Nodup:=by
 have key:∀n,n<=ls.length->(uF (ls.take n)).Nodup:=by
  intro n
  induction n with
  | zero=>intro _;simp[uF,yE,bA]
  | succ n ih =>
    intro hn;have ih:=ih (by omega);rw[fX,mY ls n (by omega),List.filter_append,lj];rw[fX]at ih;by_cases hk:(lA ls n).kind=1\/(lA ls n).kind=2
    ·rw[List.filter_cons_of_pos (by simpa using hk),List.filter_nil,List.nodup_append]
     refine⟨ih,by simp,fun a ha b hb=>?_⟩;simp only[bw,List.map_nil,po]at hb;subst hb;intro e;subst e;have hm:=(DL (ls.take n) (lA ls n).name).1 (by rw[fX];exact ha);have he:=h.err n (by omega)
     have zEL:fY ls n=0:=by
      unfold tT at he;rcases hk with k|k
      ·rw[tg k]at he
       unfold aA at he;by_cases h0:fY ls n=0
       ·exact h0
       ·rw[t7 h0]at he;exact he
      ·rw[t7 (by omega),tg k]at he;exact he
     unfold fY at zEL;rcases hm with hm|hm
     ·rw[hm,d8,tg rfl]at zEL;exact absurd zEL (by decide)
     ·rw[hm,d8,Bool.or_true,tg rfl]at zEL;exact absurd zEL (by decide)
    ·rw[List.filter_cons_of_neg (by simpa using hk),List.filter_nil];simpa using ih
 have:=key ls.length (j1 _)
 rwa [bm]at this
theorem Jb{α β:Type}(f:α->β)(l:List α)(j:Nat)(d:α)(d':β)(h:j<l.length):(l.map f).getD j d'=f (l.getD j d):=by simp[List.getD,h]
def C3(ls:List zE):List zE:=ls.filter fun x=>decide (x.kind=1\/x.kind=2)
theorem X4(h:x∈C3 ls):x.kind=1\/x.kind=2:=ly (mu.1 h).2
theorem Z5(ls:List zE):uF ls=(C3 ls).map zE.name:=fX ls
theorem Zy(ls:List zE):yE ls=(C3 ls).map tQ:=by unfold yE;rw[Zx,ci];rfl
end Go.Proofs.YtnbpdffdnphbeabGreatDoor
