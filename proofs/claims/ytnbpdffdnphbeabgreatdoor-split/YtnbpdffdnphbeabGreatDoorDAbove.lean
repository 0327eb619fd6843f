import Derived.Test.YtnbpdffdnphbeabGreatDoorMState
set_option maxHeartbeats 2000000
namespace Go.Proofs.YtnbpdffdnphbeabGreatDoor
open Go.RowKit
variable{ls:List zE}{c r:Nat}{f g:Nat->Bool}{x:zE}
def Zv(ins cs:List Bs)(s:yX):Qe:=⟨fun nm=>kS s.has (zH cs nm),fun nm=>qI s.inputs (zH ins nm)⟩
theorem zI2(ins cs:List Bs)(s:yX)(hs:List Bool)(x:zT):Kz (pY ins cs x) s hs=JB (Zv ins cs s) hs x:=by
 unfold Kz JB pY;simp only;by_cases h1:x.kind=1
 ·rw[tl h1,tl h1]
 rw[tb h1,tb h1];by_cases h2:x.kind=2
 ·rw[tl h2,tl h2]
 rw[tb h2,tb h2];by_cases h3:x.kind=3
 ·rw[tl h3,tl h3]
 rw[tb h3,tb h3];by_cases h4:x.kind=4
 ·rw[tl h4,tl h4]
 rw[tb h4,tb h4];by_cases h5:x.kind=5
 ·rw[tl h5,tl h5];unfold U5 Zv;rw[tl h5]
 rw[tb h5,tb h5];by_cases h6:x.kind=6
 ·rw[tl h6,tl h6];unfold U5 Zv;rw[tb h5,tl (.inl h6)]
 rw[tb h6,tb h6];by_cases h7:x.kind=7
 ·rw[tl h7,tl h7]
  have e1:U5 ins cs x=zH ins x.name:=by unfold U5;rw[tb h5,tl (.inr h7)]
  have e2:(if decide (x.other≠[])=true then qI s.inputs (zGD ins x) else x.num)=(if x.other=[] then x.num else (Zv ins cs s).inp x.other):=by
   by_cases ho:x.other=[]
   ·simp[ho]
   ·simp only[ho,ne_eq,not_false_eq_true,decide_true,dt,if_false];unfold zGD Zv;rw[tb ho]
  unfold Qr zB4;simp only;rw[e1,e2,show (Zv ins cs s).inp x.name=qI s.inputs (zH ins x.name) from rfl];generalize qI s.inputs (zH ins x.name)=p;generalize (if x.other=[] then x.num else (Zv ins cs s).inp x.other)=q;by_cases k1:p<q
  ·rw[tl k1,tl k1];rfl
  ·rw[tb k1,tb k1]
   by_cases k2:p=q
   ·rw[tb (by omega),tl k2];rfl
   ·rw[tl (by omega),tb k2];rfl
 ·rw[tb h7,tb h7]
theorem zII(ins cs:List Bs)(s:yX)(N:List zT):∀hs,dB s (N.map (pY ins cs)) hs=K0 (Zv ins cs s) N hs:=by
 induction N with
 | nil=>intro hs;rfl
 | cons x r ih=>intro hs;rw[da,dB,K0,zI2,ih]
theorem jP(l:List Bs)(nm:Bs) : -1<=zH l nm/\zH l nm<l.length:=by
 have:=oY nm l 0;unfold zH;omega
structure RuOk(ins cs:List Bs)(x:zE):Prop where
 nodes:∀y∈x.nd,(y.kind=5->zH ins y.name<0/\0<=zH cs y.name)/\(y.kind=6->0<=zH ins y.name)/\(y.kind=7->0<=zH ins y.name/\(y.other≠[]->0<=zH ins y.other))
 parts:∀p∈x.sum,p.name=[]\/0<=zH ins p.name\/0<=zH cs p.name
theorem all_map{α β:Type}(f:α->β)(p:β->Bool)(l:List α):(l.map f).all p=l.all fun x=>p (f x):=by
 induction l with
 | nil=>rfl
 | cons x r ih=>rw[da,fg,fg,ih]
theorem Jp{α:Type}{p q:α->Bool}{l:List α}(h:∀x∈l,p x=q x):l.all p=l.all q:=by
 induction l with
 | nil=>rfl
 | cons x r ih=>rw[fg,fg,h x (by simp),ih fun y hy=>h y (by simp[hy])]
def zFY(w:World)(b o:Nat)(G:List Bool):Prop:=∀k,k<64->w.cell? ⟨b,o+k,none⟩=some (.bool (G.getD k false))
theorem zFY.below{w w':World}{b o:Nat}{G:List Bool}(h:zFY w b o G)(hb:Below w.heap.size w w'):zFY w' b o G:=fun k hk=>by
 rw[hb.cell (p:=⟨b,o+k,none⟩) (yQ (h k hk))];exact h k hk
def nK(G:List Bool)(a b:Int):Bool:=(decide (0<=a)&&decide (a<8))&&((decide (0<=b)&&decide (b<8))&&gA G a.toNat b.toNat)
theorem zJK(w:World)(g o:Nat)(G:List Bool)(a b:Int)(h:zFY w g o G) :
 Calls Tryz.prog 140 #[.pointer (some ⟨g,o,none⟩),.int .i64 a,.int .i64 b] w fun e w'=>e=.returned (.bool (nK G a b))/\w'=w:=by
 have HA:Hid (nK G a b=((decide (0<=a)&&decide (a<8))&&((decide (0<=b)&&decide (b<8))&&gA G a.toNat b.toNat))):=rfl;have HP:=zA (fun k w=>cC k w);generalize nK G a b=ans at *;by_cases ka:0<=a/\a<8
 ·by_cases kb:0<=b/\b<8
  ·obtain⟨na,rfl⟩:∃n:Nat,a=(n:Int):=⟨a.toNat,by omega⟩
   obtain⟨nb,rfl⟩:∃n:Nat,b=(n:Int):=⟨b.toNat,by omega⟩;have HA2:Hid (ans=gA G na nb):=by have:=HA.out;rw[tu ka.1,tu ka.2,tu kb.1,tu kb.2]at this;simpa[Hid] using this
   have hc:=h (na*8+nb) (by omega);rw[<-dc]at hc;have HA3:Hid (ans=G.getD (na*8+nb) false):=HA2;have HP1:Hid (∀w:World,Calls Tryz.prog 158 #[.int .i64 (na:Int)] w fun e w'=>e=.returned (.bool true)/\w'=w):=fun w=>by have:=HP.out (na:Int) w;rw[tu ka.1,tu ka.2]at this;exact this
   have HP2:Hid (∀w:World,Calls Tryz.prog 158 #[.int .i64 (nb:Int)] w fun e w'=>e=.returned (.bool true)/\w'=w):=fun w=>by have:=HP.out (nb:Int) w;rw[tu kb.1,tu kb.2]at this;exact this
   have la:na<8:=by omega
   have lb:nb<8:=by omega
   clear HA HA2 HP h ka kb;generalize G.getD (na*8+nb) false=z at *
   go_enter Tryz.func140,Tryz.ntmps140
   go_wp2_with fail
   refine(HP1.out _).mono ?_;rintro e w' ⟨rfl,hw⟩;obtain rfl:=hw.symm;go_wp2_with fail
   refine(HP2.out _).mono ?_;rintro e w' ⟨rfl,hw⟩;obtain rfl:=hw.symm;go_wp2_with fail
   go_ret
   exact⟨zF HA3.out.symm,rfl⟩
  ·have hb:(decide (0<=b)&&decide (b<8))=false:=by
    rcases ct b 0 with h1|h1
    ·rw[ty (by omega)];rfl
    ·rw[ty (show ¬b<8 by omega)];simp
   have HA2:Hid (ans=false):=by have:=HA.out;rw[hb]at this;simpa[Hid] using this
   have HP1:Hid (∀w:World,Calls Tryz.prog 158 #[.int .i64 a] w fun e w'=>e=.returned (.bool true)/\w'=w):=fun w=>by have:=HP.out a w;rw[tu ka.1,tu ka.2]at this;exact this
   have HP2:Hid (∀w:World,Calls Tryz.prog 158 #[.int .i64 b] w fun e w'=>e=.returned (.bool false)/\w'=w):=fun w=>by have:=HP.out b w;rw[hb]at this;exact this
   clear HA HP h hb ka kb
   go_enter Tryz.func140,Tryz.ntmps140
   go_wp2_with fail
   refine(HP1.out _).mono ?_;rintro e w' ⟨rfl,hw⟩;obtain rfl:=hw.symm;go_wp2_with fail
   refine(HP2.out _).mono ?_;rintro e w' ⟨rfl,hw⟩;obtain rfl:=hw.symm;go_wp2_with fail
   go_ret
   exact⟨zF HA2.out.symm,rfl⟩
 ·have ha:(decide (0<=a)&&decide (a<8))=false:=by
   rcases ct a 0 with h1|h1
   ·rw[ty (by omega)];rfl
   ·rw[ty (show ¬a<8 by omega)];simp
  have HA2:Hid (ans=false):=by have:=HA.out;rw[ha]at this;simpa[Hid] using this
  have HP1:Hid (∀w:World,Calls Tryz.prog 158 #[.int .i64 a] w fun e w'=>e=.returned (.bool false)/\w'=w):=fun w=>by have:=HP.out a w;rw[ha]at this;exact this
  clear HA HP h ha ka
  go_enter Tryz.func140,Tryz.ntmps140
  go_wp2_with fail
  refine(HP1.out _).mono ?_;rintro e w' ⟨rfl,hw⟩;obtain rfl:=hw.symm;go_wp2_with fail
  go_ret
  exact⟨zF HA2.out.symm,rfl⟩
theorem fN(w:World)(b o:Nat)(G:List Bool)(x y:Int)(h:zFY w b (o+3) G) :
 Calls Tryz.prog 94 #[.pointer (some ⟨b,o,none⟩),.int .i64 x,.int .i64 y] w fun e w'=>e=.returned (.bool (nK G x y))/\w'=w:=by
 have HG:=zA (zJK w b (o+3) G x y h);clear h;generalize nK G x y=z at *
 go_enter Tryz.func94,Tryz.ntmps94
 go_wp2_with fail
 refine HG.out.mono ?_;rintro e w' ⟨rfl,hw⟩;obtain rfl:=hw.symm;go_wp2_with fail
 go_ret
 exact⟨rfl,rfl⟩
structure vL(ls:List zE):Prop where
 many:∀i,i<ls.length->tH ls i=false
 err:∀i,i<ls.length->mM ls i=0
 nam:qS (qM (zO ls) ls gZ)=false
 ord:qS (uW (vD ls) ls gZ)=false
theorem zGN(h:(kI ls).1=0):vL ls:=by
 revert h
 unfold kI
 cases hm:fU ls ls.length 0 with
 | some i=>intro h;exact absurd (show (3:Int)=0 from h) (by decide)
 | none =>
   have hmany:=fun i (hi:i<ls.length)=>BB ls.length 0 hm i (p7 _) (by omega);simp only;unfold XF
   cases he:sR ls ls.length 0 with
   | some i =>
     intro h;exfalso
     have h1:mM ls i=0:=h
     have:∀n i j,sR ls n i=some j->mM ls j≠0:=by
      intro n
      induction n with
      | zero=>intro i j h;simp[sR]at h
      | succ n ih=>intro i j h;rw[sR]at h;split at h
                   ·exact ih _ _ h
                   ·rename_i zL4;obtain rfl:=Option.some.inj h;exact zL4
     exact this _ _ _ he h1
   | none =>
     have herr:=fun i (hi:i<ls.length)=>GE ls.length 0 he i (p7 _) (by omega);simp only;unfold YO;intro h
     cases hr:qS (qM (zO ls) ls gZ) with
     | true=>rw[hr,tl rfl]at h;exact absurd (show (7:Int)=0 from h) (by decide)
     | false =>
       rw[hr,tb (by decide)]at h
       cases hs:qS (uW (vD ls) ls gZ) with
       | true=>rw[hs,tl rfl]at h;exact absurd (show (7:Int)=0 from h) (by decide)
       | false=>exact⟨hmany,herr,hr,hs⟩
theorem vL.rules(h:vL ls):vC 3 ls<=8:=G6 h.many
theorem X2(ls:List zE):(zO ls).length<=vC 3 ls:=by have:=(QV ls [] (by simp)).2.2;simpa[zO] using this
theorem vL.heads(h:vL ls):(zO ls).length<=8:=p8 (X2 ls) h.rules
theorem QK(ls:List zE)(nm:Bs):nm∈zO ls ↔ tP ls nm=true:=by
 have:=(QV ls [] (by simp)).2.1 nm;unfold zO tP;simpa using this
theorem gK(l:List Bs)(nm:Bs):0<=zH l nm ↔ nm∈l:=by
 have:=gL nm l 0;unfold zH;constructor
 ·intro h;exact Classical.not_not.1 fun hn=>by have:=this.2 hn;omega
 ·intro h;rcases ct (qK nm l 0) 0 with h1|h1
  ·exact absurd h (this.1 h1)
  ·exact h1
theorem Xg(ls:List zE)(nm:Bs):nm∈vX ls ↔ (uR ls 1 nm=true\/uR ls 2 nm=true):=by
 rw[fX];simp only[p9,mj,uR,me,Zl,pq,pw];constructor
 ·rintro⟨x,⟨h1,h2|h2⟩,h3⟩
  ·exact .inl ⟨x,h1,h2,h3⟩
  ·exact .inr ⟨x,h1,h2,h3⟩
 ·rintro(⟨x,h1,h2,h3⟩|⟨x,h1,h2,h3⟩)
  ·exact⟨x,⟨h1,.inl h2⟩,h3⟩
  ·exact⟨x,⟨h1,.inr h2⟩,h3⟩
theorem Zh(h:x∈ls):∃i,i<ls.length/\lA ls i=x:=by
 obtain⟨i,hi,rfl⟩:=cq h;exact⟨i,hi,by simp[lA,List.getD,hi]⟩
theorem vL.apart(h:vL ls){nm:Bs}(h1:nm∈vX ls):tP ls nm=false:=by
 rw[fX]at h1;obtain⟨x,hx,rfl⟩:=p9.1 h1;obtain⟨hm,hk⟩:=mj.1 hx;obtain⟨i,hi,rfl⟩:=Zh hm;have he:=h.err i hi
 have zL9:fY ls i=0:=by
  unfold mM at he;rcases(ce hk:(lA ls i).kind=1\/(lA ls i).kind=2) with k|k
  ·rw[tl k]at he
   unfold iE at he;by_cases h0:fY ls i=0
   ·exact h0
   ·rw[tb h0]at he;exact he
  ·rw[tb (by omega),tl k]at he;exact he
 unfold fY at zL9
 cases hc:tP ls (lA ls i).name with
 | false=>rfl
 | true=>rw[hc,Bool.or_true,Bool.or_true,tl rfl]at zL9;exact absurd zL9 (by decide)
theorem vL.ruOk(h:vL ls)(hx:x∈ls)(hk:x.kind=3):RuOk (vX ls) (zO ls) x:=by
 obtain⟨i,hi,rfl⟩:=Zh hx;have he:=h.err i hi;unfold mM at he;rw[tb (by omega),tb (by omega),tl hk]at he;unfold lP at he
 have hb:(uR (ls.take i) 3 (lA ls i).name || ((lA ls i).sum.any (fun x => !qL ls x) || (lA ls i).nd.any (fun x => !vF ls x)))=false:=by
  cases hc:(uR (ls.take i) 3 (lA ls i).name || ((lA ls i).sum.any (fun x => !qL ls x) || (lA ls i).nd.any (fun x => !vF ls x))) with
  | false=>rfl
  | true=>rw[hc,tl rfl]at he;exact absurd he (by decide)
 rw[bp,bp]at hb;obtain⟨-,hp,hn⟩:=hb;have hn':∀y∈(lA ls i).nd,vF ls y=true:=fun y hy=>by have:=dy.1 hn y hy;simpa using this
 have hp':∀y∈(lA ls i).sum,qL ls y=true:=fun y hy=>by have:=dy.1 hp y hy;simpa using this
 have hin1:∀nm,uR ls 1 nm=true->0<=zH (vX ls) nm:=fun nm hh=>(gK _ _).2 ((Xg _ _).2 (.inl hh));have hin2:∀nm,uR ls 2 nm=true->0<=zH (vX ls) nm:=fun nm hh=>(gK _ _).2 ((Xg _ _).2 (.inr hh))
 have hco:∀nm,tP ls nm=true->zH (vX ls) nm<0/\0<=zH (zO ls) nm:=fun nm hh=>by
  refine⟨?_,(gK _ _).2 ((QK _ _).2 hh)⟩;rcases ct (zH (vX ls) nm) 0 with h1|h1
  ·exact h1
  ·have:=h.apart ((gK _ _).1 h1);rw[hh]at this;cases this
 refine⟨fun y hy=>?_,fun p hp2=>?_⟩
 ·have:=hn' y hy
  unfold vF at this;refine⟨fun k=>?_,fun k=>?_,fun k=>?_⟩
  ·rw[tl k]at this;exact hco _ this
  ·rw[tb (by omega),tl k]at this;exact hin2 _ this
  ·rw[tb (by omega),tb (by omega),tl k,pq,ba,pw]at this
   exact⟨hin1 _ this.2,fun ho=>hin1 _ (this.1.resolve_left ho)⟩
 ·have:=hp' p hp2
  unfold qL Q6 at this;rw[ba,ba,pw]at this;rcases this with h1|h1|h1
  ·exact .inl h1
  ·exact .inr (.inl (hin1 _ h1))
  ·exact .inr (.inr (hco _ h1).2)
theorem vL.sums(h:vL ls)(hx:x∈ls)(hk:x.kind=3):x.sum.length<=4/\∀p∈x.sum,p.starred=true->p.num<=9:=by
 obtain⟨i,hi,rfl⟩:=Zh hx;have he:=h.many i hi;unfold tH Vq tJ at he;rw[tu hk,mz,bp,bp,bp,bp]at he;obtain⟨-,-,-,h1,h2⟩:=he;refine⟨by have:=of_decide_eq_false h1;omega,fun p hp hs=>?_⟩;have:=dy.1 h2 p hp;unfold tS at this;rw[hs]at this;simpa using this
theorem vL.labs(h:vL ls):(vD ls).Nodup:=by
 refine BK ls fun i hi hk=>?_;have he:=h.err i hi;unfold mM at he;rw[tb (by omega),tb (by omega),tl hk]at he;unfold lP at he
 cases hc:uR (ls.take i) 3 (lA ls i).name with
 | false=>rfl
 | true=>rw[hc,fq,tl rfl]at he;exact absurd he (by decide)
structure pA where
 n:Nat
 head:Nat->Nat
 abv:Nat->Nat->Bool
 app:Nat->(Nat->Bool)->Bool
 sum:Nat->(Nat->Int)->Int
 lev:Nat->Nat
 nm:Nat->Nat->Prop
 happ:∀r f g,r<n->(∀c,nm r c->f c=g c)->app r f=app r g
 hsum:∀r f g,r<n->(∀c,nm r c->f c=g c)->sum r f=sum r g
 hlev:∀r c,r<n->nm r c->lev c<lev (head r)
 habv:∀k r,k<n->r<n->abv k r=true->head k=head r
def kK(A:pA)(on:Nat->Bool)(r:Nat):Bool:=(List.range A.n).any fun k=>on k&&A.abv k r
def ZG(A:pA)(on:Nat->Bool)(r:Nat):Int:=if on r then (if kK A on r then 1 else 2) else 0
def xN(A:pA)(on:Nat->Bool)(c:Nat):List Nat:=(List.range A.n).filter fun r=>decide (A.head r=c)&&(on r && !kK A on r)
def oR:List Nat->Int
 | []=>0
 | [_]=>1
 | _=>2
def wY(f:Nat->Int):List Nat->Int
 | [r]=>f r
 | _=>0
def iQ(A:pA)(on:Nat->Bool)(c:Nat):Int:=oR (xN A on c)
def zGA(A:pA)(has:Nat->Bool):Nat->Bool:=fun c=>decide (iQ A (fun r=>A.app r has) c=1)
def Dn(A:pA)(has:Nat->Bool)(val:Nat->Int):Nat->Int:=fun c=>wY (fun r=>A.sum r val) (xN A (fun r=>A.app r has) c)
def lN(A:pA):Nat->Nat->Bool
 | 0=>fun _=>false
 | k+1=>zGA A (lN A k)
def lL(A:pA):Nat->Nat->Int
 | 0=>fun _=>0
 | k+1=>Dn A (lN A k) (lL A k)
def Qh(A:pA)(k:Nat)(r:Nat):Bool:=A.app r (lN A k)
theorem eG(A:pA)(hr:r<A.n)(h:∀k,k<A.n->A.head k=A.head r->f k=g k):kK A f r=kK A g r:=by
 unfold kK;rw[dn];simp only[me,py,pq];constructor
 ·rintro⟨k,h1,h2,h3⟩;exact⟨k,h1,(h k h1 (A.habv k r h1 hr h3)) ▸ h2,h3⟩
 ·rintro⟨k,h1,h2,h3⟩;exact⟨k,h1,(h k h1 (A.habv k r h1 hr h3)).symm ▸ h2,h3⟩
theorem dU(A:pA)(h:∀k,k<A.n->A.head k=c->f k=g k):xN A f c=xN A g c:=by
 unfold xN;apply List.filter_congr
 intro r hr;rw[py]at hr;by_cases hc:A.head r=c
 ·rw[h r hr hc,eG A hr (fun k hk e=>h k hk (e.trans hc))]
 ·simp[hc]
theorem Y4(A:pA)(hr:r<A.n)(h:∀k,k<A.n->A.head k=A.head r->f k=g k):ZG A f r=ZG A g r:=by
 unfold ZG;rw[h r hr rfl,eG A hr h]
theorem rW(A:pA)(h:r∈xN A f c):r<A.n/\A.head r=c/\f r=true/\kK A f r=false:=by
 unfold xN at h;simpa[mj] using h
theorem gU{f g:Nat->Int}{l:List Nat}(h:∀r∈l,f r=g r):wY f l=wY g l:=by
 match l with
 | []=>rfl
 | [r]=>exact h r (by simp)
 | _::_::_=>rfl
theorem pB(A:pA):∀k c j,A.lev c<k->k<=j->lN A j c=lN A k c/\lL A j c=lL A k c:=by
 intro k
 induction k with
 | zero=>intro c j h;omega
 | succ k ih =>
   intro c j hc hj;obtain⟨j,rfl⟩:∃i,j=i+1:=⟨j-1,by omega⟩
   have hon:∀r,r<A.n->A.head r=c->A.app r (lN A j)=A.app r (lN A k):=fun r hr e=>A.happ r _ _ hr fun c' hn=>by
    have:=A.hlev r c' hr hn;rw[e]at this;exact(ih c' j (by omega) (by omega)).1
   have hs:xN A (fun r=>A.app r (lN A j)) c=xN A (fun r=>A.app r (lN A k)) c:=dU A hon;constructor
   ·show decide (oR (xN A (fun r=>A.app r (lN A j)) c)=1)=decide (oR (xN A (fun r=>A.app r (lN A k)) c)=1)
    rw[hs]
   ·simp only[lL,Dn]
    rw[hs];refine gU fun r hr=>?_;obtain⟨h1,h2,_,_⟩:=rW A hr
    exact A.hsum r _ _ h1 fun c' hn=>by
     have:=A.hlev r c' h1 hn;rw[h2]at this;exact(ih c' j (by omega) (by omega)).2
theorem Zf(A:pA){k j:Nat}(hr:r<A.n)(hk:A.lev (A.head r)<=k)(hj:k<=j):Qh A j r=Qh A k r :=
 A.happ r _ _ hr fun c hn=>by
  have:=A.hlev r c hr hn;exact(pB A k c j (by omega) hj).1
structure vV where
 has:Nat->Bool
 val:Nat->Int
 ap:Nat->Bool
 vd:Nat->Int
 st:Nat->Int
 av:Nat->Int
def h0:vV:=⟨fun _=>false,fun _=>0,fun _=>false,fun _=>0,fun _=>0,fun _=>0⟩
def uD(A:pA)(c:Nat)(s:vV):vV :=
 let ap':=fun r=>if A.head r=c then A.app r s.has else s.ap r
 let l:=xN A ap' c
 { has:=fun x=>if x=c then (if l.length=1 then true else s.has x) else s.has x
   val:=fun x=>if x=c then (if l.length=1 then wY (fun r=>A.sum r s.val) l else s.val x) else s.val x
   ap:=ap'
   vd:=fun r=>if A.head r=c then (if ap' r then (if kK A ap' r then 1 else 2) else s.vd r) else s.vd r
   st:=fun x=>if x=c then (if l.length=0 then s.st x else oR l) else s.st x
   av:=fun x=>if x=c then (if l.length=1 then wY (fun r=>A.sum r s.val) l else s.av x) else s.av x }
structure jD(A:pA)(S:Nat->Prop)(s:vV):Prop where
 has:∀c,(S c->s.has c=lN A (A.lev c+1) c)/\(¬S c->s.has c=false)
 val:∀c,(S c->s.val c=lL A (A.lev c+1) c)/\(¬S c->s.val c=0)
 ap:∀r,r<A.n->(S (A.head r)->s.ap r=Qh A (A.lev (A.head r)) r)/\(¬S (A.head r)->s.ap r=false)
 vd:∀r,r<A.n->(S (A.head r)->s.vd r=ZG A (Qh A (A.lev (A.head r))) r)/\(¬S (A.head r)->s.vd r=0)
 st:∀c,(S c->s.st c=iQ A (Qh A (A.lev c)) c)/\(¬S c->s.st c=0)
 av:∀c,(S c->s.av c=lL A (A.lev c+1) c)/\(¬S c->s.av c=0)
theorem zGK(A:pA):jD A (fun _=>False) h0:=by
 constructor <;> intros <;> exact⟨fun h=>h.elim,fun _=>rfl⟩
theorem QO{l:List Nat}:oR l=1 ↔ l.length=1:=by
 match l with
 | []=>simp[oR]
 | [r]=>simp[oR]
 | _::_::_=>simp[oR]
theorem K7{f:Nat->Int}{l:List Nat}(h:l.length≠1):wY f l=0:=by
 match l with
 | []=>rfl
 | [r]=>simp at h
 | _::_::_=>rfl
theorem Q9(A:pA){S:Nat->Prop}{s:vV}(h:jD A S s)(hc:¬S c)(hl:∀c',A.lev c'<A.lev c->(∃r,r<A.n/\A.nm r c')->S c'):jD A (fun x=>S x\/x=c) (uD A c s):=by
 have happ:∀r,r<A.n->A.head r=c->A.app r s.has=Qh A (A.lev c) r:=fun r hr e=>A.happ r _ _ hr fun c' hn=>by
  have h1:=A.hlev r c' hr hn;rw[e]at h1;rw[(h.has c').1 (hl c' h1 ⟨r,hr,hn⟩)];exact(pB A (A.lev c'+1) c' (A.lev c) (by omega) (by omega)).1.symm
 have hsum:∀r,r<A.n->A.head r=c->A.sum r s.val=A.sum r (lL A (A.lev c)):=fun r hr e=>A.hsum r _ _ hr fun c' hn=>by
  have h1:=A.hlev r c' hr hn;rw[e]at h1;rw[(h.val c').1 (hl c' h1 ⟨r,hr,hn⟩)];exact(pB A (A.lev c'+1) c' (A.lev c) (by omega) (by omega)).2.symm
 have hs:xN A (fun r=>if A.head r=c then A.app r s.has else s.ap r) c=xN A (Qh A (A.lev c)) c:=dU A fun k hk e=>by simp only[e,dt];exact happ k hk e
 have hb:∀r,r<A.n->A.head r=c->kK A (fun r=>if A.head r=c then A.app r s.has else s.ap r) r=kK A (Qh A (A.lev c)) r:=fun r hr e=>eG A hr fun k hk e2=>by simp only[e2.trans e,dt];exact happ k hk (e2.trans e)
 have hv:wY (fun r=>A.sum r s.val) (xN A (Qh A (A.lev c)) c)=lL A (A.lev c+1) c:=by
  simp only[lL,Dn]
  exact gU fun r hr=>by
   obtain⟨h1,h2,_,_⟩:=rW A hr;exact hsum r h1 h2
 have hh:lN A (A.lev c+1) c=decide ((xN A (Qh A (A.lev c)) c).length=1):=by
  simp only[lN,zGA,iQ];exact decide_eq_decide.2 QO
 have hx:∀c',c'≠c->((S c'\/c'=c) ↔ S c'):=fun c' zL4=>⟨fun h=>h.resolve_right zL4,.inl⟩;constructor
 ·intro x
  simp only[uD];by_cases e:x=c
  ·subst e
   refine⟨fun _=>?_,fun hn=>absurd (.inr rfl) hn⟩;rw[tl rfl,hs,hh];by_cases k:(xN A (Qh A (A.lev x)) x).length=1
   ·rw[tl k,tu k]
   ·rw[tb k,ty k];exact(h.has x).2 hc
  ·rw[tb e,hx x e];exact h.has x
 ·intro x
  simp only[uD];by_cases e:x=c
  ·subst e
   refine⟨fun _=>?_,fun hn=>absurd (.inr rfl) hn⟩;rw[tl rfl,hs,<-hv];by_cases k:(xN A (Qh A (A.lev x)) x).length=1
   ·rw[tl k]
   ·rw[tb k,K7 k];exact(h.val x).2 hc
  ·rw[tb e,hx x e];exact h.val x
 ·intro r hr
  simp only[uD];by_cases e:A.head r=c
  ·rw[tl e]
   refine⟨fun _=>?_,fun hn=>absurd (.inr e) hn⟩;rw[happ r hr e,e]
  ·rw[tb e,hx _ e];exact h.ap r hr
 ·intro r hr
  simp only[uD];by_cases e:A.head r=c
  ·refine⟨fun _=>?_,fun hn=>absurd (Or.inr e) hn⟩
   have h9:(if A.head r=c then A.app r s.has else s.ap r)=Qh A (A.lev c) r:=by rw[tl e,happ r hr e]
   rw[hb r hr e,tl e,show A.lev (A.head r)=A.lev c by rw[e]];unfold ZG;by_cases k:Qh A (A.lev c) r=true
   ·rw[tl k,tl (h9.trans k)]
   ·rw[tb k,tb (fun x=>k (h9.symm.trans x))];exact(h.vd r hr).2 (by rw[e];exact hc)
  ·rw[tb e,hx _ e];exact h.vd r hr
 ·intro x
  simp only[uD];by_cases e:x=c
  ·subst e
   refine⟨fun _=>?_,fun hn=>absurd (.inr rfl) hn⟩;rw[tl rfl,hs];unfold iQ;by_cases k:(xN A (Qh A (A.lev x)) x).length=0
   ·rw[tl k,my k,(h.st x).2 hc];rfl
   ·rw[tb k]
  ·rw[tb e,hx x e];exact h.st x
 ·intro x
  simp only[uD];by_cases e:x=c
  ·subst e
   refine⟨fun _=>?_,fun hn=>absurd (.inr rfl) hn⟩;rw[tl rfl,hs,<-hv];by_cases k:(xN A (Qh A (A.lev x)) x).length=1
   ·rw[tl k]
   ·rw[tb k,K7 k];exact(h.av x).2 hc
  ·rw[tb e,hx x e];exact h.av x
def bE(A:pA)(H l:Nat):Nat->Nat->vV->vV
 | 0,_,s=>s
 | f+1,i,s=>bE A H l f (i+1) (if A.lev i=l then uD A i s else s)
def xH(A:pA)(H:Nat):Nat->Nat->vV->vV
 | 0,_,s=>s
 | f+1,l,s=>xH A H f (l+1) (bE A H l H 0 s)
theorem jD.same{A:pA}{S T:Nat->Prop}{s:vV}(h:jD A S s)(e:∀x,S x ↔ T x):jD A T s:=by
 obtain rfl:S=T:=funext fun x=>propext (e x);exact h
theorem j6(A:pA)(H l:Nat)(hn:∀r c,r<A.n->A.nm r c->c<H):∀f i s,i+f=H->jD A (fun x=>x<H/\(A.lev x<l\/A.lev x=l/\x<i)) s->jD A (fun x=>x<H/\A.lev x<l+1) (bE A H l f i s):=by
 intro f
 induction f with
 | zero=>intro i s hi h;exact h.same fun x=>by constructor <;> intro hx <;> omega
 | succ f ih =>
   intro i s hi h;rw[bE];refine ih (i+1) _ (by omega) ?_;by_cases e:A.lev i=l
   ·rw[tl e]
    refine(Q9 A h (c:=i) (by omega) ?_).same fun x=>?_
    ·rintro c' hc ⟨r,hr,hnm⟩
     exact⟨hn r c' hr hnm,.inl (by omega)⟩
    ·constructor
     ·rintro(h1|h1)
      ·omega
      ·subst h1;exact⟨by omega,.inr ⟨e,by omega⟩⟩
     ·rintro⟨h1,h2⟩
      by_cases k:x=i
      ·exact .inr k
      ·exact .inl ⟨h1,by omega⟩
   ·rw[tb e]
    refine h.same fun x=>?_;constructor
    ·intro hx;omega
    ·rintro⟨h1,h2⟩
     refine⟨h1,?_⟩;rcases h2 with h2|⟨h2,h3⟩
     ·exact .inl h2
     ·refine .inr ⟨h2,?_⟩
      rcases md x i with h4|h4
      ·exact h4
      ·obtain rfl:x=i:=by omega
       exact absurd h2 e
theorem Gg(A:pA)(H:Nat)(hn:∀r c,r<A.n->A.nm r c->c<H):∀f l s,l+f=H->jD A (fun x=>x<H/\A.lev x<l) s->jD A (fun x=>x<H/\A.lev x<H) (xH A H f l s):=by
 intro f
 induction f with
 | zero=>intro l s hl h;exact h.same fun x=>by constructor <;> intro hx <;> omega
 | succ f ih =>
   intro l s hl h;rw[xH];refine ih (l+1) _ (by omega) ?_;exact j6 A H l hn H 0 s (by omega) (h.same fun x=>by constructor <;> intro hx <;> omega)
theorem QU(A:pA)(H:Nat)(hn:∀r c,r<A.n->A.nm r c->c<H)(hl:∀c,c<H->A.lev c<H)(hh:∀r,r<A.n->A.head r<H)(n:Nat)(hN:n+1=H) :
 (∀r,r<A.n->(xH A H H 0 h0).vd r=ZG A (Qh A n) r)/\(∀c,c<H->(xH A H H 0 h0).st c=iQ A (Qh A n) c/\(xH A H H 0 h0).av c=lL A H c):=by
 have h:=Gg A H hn H 0 h0 (by omega) ((zGK A).same fun x=>⟨False.elim,fun hx=>by omega⟩);generalize xH A H H 0 h0=s at *;constructor
 ·intro r hr
  have h1:=hl _ (hh r hr);rw[(h.vd r hr).1 ⟨hh r hr,h1⟩];exact Y4 A hr fun k hk e=>(Zf A hk (show A.lev (A.head k)<=A.lev (A.head r) by rw[e];omega) (show A.lev (A.head r)<=n by omega)).symm
 ·intro c hc
  have h1:=hl c hc;rw[(h.st c).1 ⟨hc,h1⟩,(h.av c).1 ⟨hc,h1⟩];constructor
  ·unfold iQ
   rw[dU A fun k hk e=>(Zf A hk (show A.lev (A.head k)<=A.lev c by rw[e];omega) (show A.lev c<=n by omega)).symm]
  ·exact(pB A (A.lev c+1) c H (by omega) (by omega)).2.symm
def jF:Nat->Int
 | 0=>9999
 | k+1=>36*jF k
theorem fS:∀k,9999<=jF k:=by
 intro k
 induction k with
 | zero=>exact lh _
 | succ k ih=>rw[jF];omega
theorem ur:∀k,k<=8->jF k<=28208277964652544:=by
 intro k hk;have:k=0\/k=1\/k=2\/k=3\/k=4\/k=5\/k=6\/k=7\/k=8:=by omega
 rcases this with rfl|rfl|rfl|rfl|rfl|rfl|rfl|rfl|rfl <;> decide
theorem UC(A:pA)(hs:∀r (f:Nat->Int) (B:Int),r<A.n->9999<=B->(∀c,-B<=f c/\f c<=B) -> -(36*B)<=A.sum r f/\A.sum r f<=36*B):∀k c,-(jF k)<=lL A k c/\lL A k c<=jF k:=by
 intro k
 induction k with
 | zero=>intro c;show -(9999:Int)<=0/\(0:Int)<=9999;exact⟨by decide,by decide⟩
 | succ k ih =>
   intro c;have hk:=fS k;rw[lL,Dn,jF];generalize hl:xN A (fun r=>A.app r (lN A k)) c=l
   match l,hl with
   | [],_=>exact⟨by show -(36*jF k)<=0;omega,by show (0:Int)<=36*jF k;omega⟩
   | [r],hl =>
     have hr:=(rW A (show r∈xN A (fun r=>A.app r (lN A k)) c by rw[hl];simp)).1;exact hs r (lL A k) (jF k) hr hk ih
   | _::_::_,_=>exact⟨by show -(36*jF k)<=0;omega,by show (0:Int)<=36*jF k;omega⟩
def fQ(ls:List zE):List zE:=ls.filter fun x=>decide (x.kind=3)
theorem Xq(ls:List zE):vD ls=(fQ ls).map zE.name:=by
 have key:∀(ls:List zE) acc,kY ls acc=acc++(ls.filter fun x=>decide (x.kind=3)).map zE.name:=by
  intro ls
  induction ls with
  | nil=>intro acc;simp[kY]
  | cons x r ih=>intro acc;rw[kY,ih];by_cases h:x.kind=3 <;> simp[h]
 unfold vD fQ;rw[key];simp
theorem rX(ins cs:List Bs)(ls:List zE):uQ ins cs ls=(fQ ls).map (qG ins cs):=by
 unfold uQ fQ;rw[F1];simp
theorem Bc(h:x∈fQ ls):x∈ls/\x.kind=3:=by
 have:=mj.1 h;exact⟨this.1,by simpa using this.2⟩
theorem Bd(ls:List zE):(fQ ls).length=vC 3 ls:=by
 unfold fQ
 induction ls with
 | nil=>rfl
 | cons x r ih=>rw[vC];by_cases h:x.kind=3 <;> simp[h,ih];omega
theorem uh(h:r<(fQ ls).length):(fQ ls).getD r Ym∈fQ ls:=by simp[List.getD,h]
theorem JL(H:Nat)(f:Nat->Bool)(a:Int):kS ((List.range H).map f) a=(decide (0<=a)&&(decide (a<H)&&f a.toNat)):=by
 unfold kS;by_cases h0:0<=a
 ·by_cases h1:a<H
  ·rw[tu h0,tu h1]
   simp only[pi,List.length_range,tu h1,mz];simp[List.getD,show a.toNat<H by omega]
  ·rw[ty h1]
   simp only[pi,List.length_range,ty h1,cp]
 ·rw[ty h0];rfl
theorem YZ(H:Nat)(f:Nat->Int)(a:Int):qI ((List.range H).map f) a=if 0<=a/\a<H then f a.toNat else 0:=by
 unfold qI;simp only[pi,List.length_range];by_cases h:0<=a/\a<H
 ·rw[tl h,tl h];simp[List.getD,show a.toNat<H by omega]
 ·rw[tb h,tb h]
def zK3(r:xJ)(c:Nat):Prop:=(∃p∈r.sum,p.kind=3/\p.place=(c:Int))\/∃y∈r.guard,y.kind=5/\y.place=(c:Int)
theorem XP(r:xJ)(H:Nat)(inp v v':List Int)(f g:Nat->Bool)(h:∀c,zK3 r c->f c=g c):qJ r ⟨inp,(List.range H).map f,v⟩=qJ r ⟨inp,(List.range H).map g,v'⟩:=by
 have hT:∀a:Int,(∀c:Nat,a=(c:Int)->zK3 r c)->kS ((List.range H).map f) a=kS ((List.range H).map g) a:=fun a ha=>by
  rw[JL,JL];by_cases h0:0<=a
  ·rw[h a.toNat (ha a.toNat (by omega))]
  ·rw[ty h0];rfl
 have h1:jB ⟨inp,(List.range H).map f,v⟩ r.sum=jB ⟨inp,(List.range H).map g,v'⟩ r.sum:=by
  unfold jB
  exact Jp fun p hp=>by
   by_cases k:p.kind=3
   ·rw[hT p.place fun c e=>.inl ⟨p,hp,k,e⟩]
   ·rw[ty k];rfl
 have h2:∀(N:List qY) hs,(∀y∈N,y∈r.guard)->dB ⟨inp,(List.range H).map f,v⟩ N hs=dB ⟨inp,(List.range H).map g,v'⟩ N hs:=by
  intro N
  induction N with
  | nil=>intro hs _;rfl
  | cons y t ih =>
    intro hs hy;rw[dB,dB]
    have e:Kz y ⟨inp,(List.range H).map f,v⟩ hs=Kz y ⟨inp,(List.range H).map g,v'⟩ hs:=by
     unfold Kz;by_cases k:y.kind=5
     ·simp only[k]
      exact hT y.place fun c e=>.inr ⟨y,hy y (by simp),k,e⟩
     ·simp only[k,if_false];rfl
    rw[e];exact ih _ fun z hz=>hy z (by simp[hz])
 unfold qJ;rw[h1,h2 r.guard [] fun y hy=>hy]
theorem YI(r:xJ)(H:Nat)(inp:List Int)(v v':List Bool)(f g:Nat->Int)(h:∀c,zK3 r c->f c=g c):eR ⟨inp,v,(List.range H).map f⟩ r.sum=eR ⟨inp,v',(List.range H).map g⟩ r.sum:=by
 have key:∀(l:List lX) n,(∀p∈l,p∈r.sum)->bL ⟨inp,v,(List.range H).map f⟩ l n=bL ⟨inp,v',(List.range H).map g⟩ l n:=by
  intro l
  induction l with
  | nil=>intro n _;rfl
  | cons p t ih =>
    intro n hp;rw[bL,bL]
    have e:lQ ⟨inp,v,(List.range H).map f⟩ p=lQ ⟨inp,v',(List.range H).map g⟩ p:=by
     unfold lQ;by_cases k:p.kind=3
     ·simp only[k]
      rw[YZ,YZ];by_cases h0:0<=p.place/\p.place<H
      ·rw[tl h0,tl h0,h p.place.toNat (.inl ⟨p,hp p (by simp),k,by omega⟩)]
      ·rw[tb h0,tb h0]
     ·simp only[k,if_false]
    rw[e];exact ih _ fun z hz=>hp z (by simp[hz])
 exact key r.sum 0 fun p hp=>hp
theorem KU(h:vL ls)(hx:x∈ls)(hk:x.kind=3){a:Nat}(ha:a<(vD ls).length)(e:x.name=(vD ls).getD a []):(fQ ls).getD a Ym=x:=by
 have hx2:x∈fQ ls:=mj.2 ⟨hx,by simpa using hk⟩;obtain⟨b,hb,rfl⟩:=cq hx2;have hl:(vD ls).length=(fQ ls).length:=by rw[Xq];simp
 have e2:(vD ls).getD b []=(vD ls).getD a []:=by
  rw[<-e,Xq];simp[List.getD,hb]
 have:=B2 h.labs (show b<_ by omega) ha e2;subst this;simp[List.getD,hb]
theorem C6(h:vL ls){i k:Nat}(hg:gA (yB (uW (vD ls) ls gZ)) i k=true)(hi:i<8)(hk:k<8):((fQ ls).getD i Ym).conc=((fQ ls).getD k Ym).conc:=by
 have hl:(uW (vD ls) ls gZ).length=64:=by rw[lT];exact xK
 refine(eE hl i k).1 ⟨hi,hk,hg⟩ (fun a b=>((fQ ls).getD a Ym).conc=((fQ ls).getD b Ym).conc) (fun a b hab=>?_) (fun _ _ _ h1 h2=>h1.trans h2);obtain⟨ha8,hb8,hgg⟩:=hab;rw[YW _ _ ha8 hb8 _ xK,BU,bf]at hgg;obtain⟨x,hx,hxo⟩:=me.1 hgg;rw[zKJ h.labs x,pq,pq,pw,pw]at hxo;obtain⟨ha,hb,hov⟩:=hxo;unfold ovX at hov;simp only[pq,pw]at hov;obtain⟨hk4,hn1,hn2⟩:=hov;obtain⟨j,hj,rfl⟩:=Zh hx;have he:=h.err j hj;unfold mM at he;rw[tb (by omega),tb (by omega),tb (by omega),tl hk4]at he;unfold cS at he;by_cases h1:uK ls (lA ls j).name=ls.length\/uK ls (lA ls j).lower=ls.length
 ·rw[tl h1]at he;exact absurd he (by decide)
 ·rw[tb h1]at he
  have zKZ:uK ls (lA ls j).name<ls.length/\uK ls (lA ls j).lower<ls.length:=by
   have a1:=wB ls (lA ls j).name;have a2:=wB ls (lA ls j).lower;omega
  have hc:(lA ls (uK ls (lA ls j).name)).conc=(lA ls (uK ls (lA ls j).lower)).conc:=by
   rcases Classical.em ((lA ls j).name=(lA ls j).lower\/(lA ls (uK ls (lA ls j).name)).conc≠(lA ls (uK ls (lA ls j).lower)).conc) with h2|h2
   ·rw[tl h2]at he;exact absurd he (by decide)
   ·exact Classical.not_not.1 fun hn=>h2 (.inr hn)
  have hit:∀nm,uK ls nm<ls.length->lA ls (uK ls nm)∈ls/\(lA ls (uK ls nm)).kind=3/\(lA ls (uK ls nm)).name=nm:=fun nm zKZ=>by
   have:=G5 (Zl 3 nm) ls 0 (by unfold uK at zKZ;omega);rw[Nat.sub_zero]at this;have h3:Zl 3 nm (lA ls (uK ls nm))=true:=this;unfold Zl at h3;simp only[pq,pw]at h3;exact⟨by unfold lA;simp[List.getD,zKZ],h3.1,h3.2⟩
  obtain⟨p1,p2,p3⟩:=hit _ zKZ.1;obtain⟨q1,q2,q3⟩:=hit _ zKZ.2;rw[KU h p1 p2 ha (by rw[p3];exact hn1),KU h q1 q2 hb (by rw[q3];exact hn2)];exact hc
def iY(ls:List zE)(r:Nat):Nat:=(zH (zO ls) ((fQ ls).getD r Ym).conc).toNat
theorem sJ(h:r<(fQ ls).length):zH (zO ls) ((fQ ls).getD r Ym).conc=(iY ls r:Int)/\iY ls r<(zO ls).length:=by
 have hm:=Bc (uh h);have h1:0<=zH (zO ls) ((fQ ls).getD r Ym).conc:=(gK _ _).2 ((QK _ _).2 (me.2 ⟨_,hm.1,by unfold D1;rw[tu hm.2];simp⟩));have h2:=jP (zO ls) ((fQ ls).getD r Ym).conc;unfold iY;omega
def sP(ls:List zE)(r:Nat):xJ:=qG (vX ls) (zO ls) ((fQ ls).getD r Ym)
theorem B5(h:vL ls)(hr:r<(fQ ls).length)(hn:zK3 (sP ls r) c):c<(zO ls).length/\dQ (qM (zO ls) ls gZ) c<dQ (qM (zO ls) ls gZ) (iY ls r):=by
 have h8:=h.heads;obtain⟨hm,hk⟩:=Bc (uh hr);obtain⟨hf,zKZ⟩:=sJ hr;have hl:(qM (zO ls) ls gZ).length=64:=by rw[fT];exact xK
 have hc:(((fQ ls).getD r Ym).sum.any (fun y=>decide (zH (zO ls) y.name=(c:Int))) || ((fQ ls).getD r Ym).nd.any (fun y=>decide (y.kind=5)&&decide (zH (zO ls) y.name=(c:Int))))=true/\c<(zO ls).length:=by
  rcases hn with ⟨p,hp,k,e⟩|⟨y,hy,k,e⟩
  ·obtain⟨q,hq,rfl⟩:=p9.1 hp
   have hq3:JD (vX ls) q=3:=k;have hqp:zr (vX ls) (zO ls) q=(c:Int):=e;unfold JD at hq3;unfold zr at hqp;by_cases h0:q.name=[]
   ·rw[tl h0]at hq3;exact absurd hq3 (by decide)
   ·rw[tb h0]at hq3 hqp
    by_cases h1:zH (vX ls) q.name<0
    ·rw[tl h1]at hqp
     exact⟨by rw[ba];exact .inl (me.2 ⟨q,hq,by simpa using hqp⟩),by have:=jP (zO ls) q.name;omega⟩
    ·rw[tb h1]at hq3;exact absurd hq3 (by decide)
  ·obtain⟨q,hq,rfl⟩:=p9.1 hy
   have hq5:q.kind=5:=k;have hqp:U5 (vX ls) (zO ls) q=(c:Int):=e;unfold U5 at hqp;rw[tl hq5]at hqp;exact⟨by rw[ba];exact .inr (me.2 ⟨q,hq,by simp[hq5,hqp]⟩),by have:=jP (zO ls) q.name;omega⟩
 refine⟨hc.2,j7 hl h.nam (by omega) (by omega) ?_⟩;rw[Xe _ _ (by omega) (by omega) _ xK,BU,bf];exact me.2 ⟨_,hm,by unfold zFN;rw[hk,hf,hc.1];simp⟩
def vH(ls:List zE)(inp:List Int)(h:vL ls):pA where
 n:=(fQ ls).length
 head:=iY ls
 abv:=gA (yB (uW (vD ls) ls gZ))
 app:=fun r f=>qJ (sP ls r) ⟨inp,(List.range (zO ls).length).map f,[]⟩
 sum:=fun r f=>eR ⟨inp,[],(List.range (zO ls).length).map f⟩ (sP ls r).sum
 lev:=dQ (qM (zO ls) ls gZ)
 nm:=fun r=>zK3 (sP ls r)
 happ:=fun r f g _ hfg=>XP (sP ls r) _ inp [] [] f g hfg
 hsum:=fun r f g _ hfg=>YI (sP ls r) _ inp [] [] f g hfg
 hlev:=fun r c hr hn=>(B5 h hr hn).2
 habv:=fun k r hk hr hg=>by
  have h8:(fQ ls).length<=8:=by rw[Bd];exact h.rules
  unfold iY;rw[C6 h hg (by omega) (by omega)]
theorem Jr(ls:List zE)(inp:List Int)(h:vL ls)(a b:Nat):(vH ls inp h).abv a b=gA (yB (uW (vD ls) ls gZ)) a b:=by simp only[vH]
def bX(pl:Nat->Int)(j:Nat):Nat->Nat
 | 0=>0
 | m+1=>bX pl j m+(if pl m=(j:Int) then 1 else 0)
theorem VX(pl:Nat->Int)(j:Nat){m m':Nat}(h:m<=m'):bX pl j m<=bX pl j m':=by
 induction m' with
 | zero=>obtain rfl:m=0:=by omega
         exact j1 _
 | succ k ih =>
   rcases md m (k+1) with h1|h1
   ·rw[bX];have:=ih (by omega);omega
   ·obtain rfl:m=k+1:=by omega
    exact j1 _
structure Ju where
 name:Bs
 isNum:Bool
 value:Int
def fJ(f:Ju):Value:=.agg #[.string ⟨f.name.toArray⟩,.bool f.isNum,.int .i64 f.value]
def oC(t:PT):Bool:=decide (t.k=2)&&(decide (t.s=[121,101,115]) || decide (t.s=[110,111]))
def qV(n v:PT):Ju:=if v.k=3 then ⟨n.s,true,v.v⟩ else ⟨n.s,false,if v.s=[121,101,115] then 1 else 0⟩
def bO(f:Ju)(x:zQ):Bool:=if x.isFlag then !f.isNum else f.isNum&&(decide (x.low<=f.value)&&decide (f.value<=x.high))
theorem QR(w:World)(t:PT)(s:Bs):Calls Tryz.prog 130 #[Qg t,.string ⟨s.toArray⟩] w fun e w'=>e=.returned (.bool (decide (t.k=4)&&decide (t.s=s)))/\Below w.heap.size w w':=by
 obtain⟨k,x,v,p⟩:=t;simp only[Qg];by_cases k1:k=4
 ·by_cases k2:x=s
  ·have HA:Hid ((decide (k=4)&&decide (x=s))=true):=by unfold Hid;rw[tu k1,tu k2];rfl
   have b2:(x==s)=true:=by simpa using k2
   generalize (decide (k=4)&&decide (x=s))=a at *;clear k2
   go_enter Tryz.func130,Tryz.ntmps130
   go_wp2_with fail
   go_ret
   exact⟨zF HA.out.symm,gb (j1 _) _⟩
  ·have HA:Hid ((decide (k=4)&&decide (x=s))=false):=by unfold Hid;rw[ty k2];simp
   have b2:(x==s)=false:=by simpa using k2
   generalize (decide (k=4)&&decide (x=s))=a at *;clear k2
   go_enter Tryz.func130,Tryz.ntmps130
   go_wp2_with fail
   go_ret
   exact⟨zF HA.out.symm,gb (j1 _) _⟩
 ·have HA:Hid ((decide (k=4)&&decide (x=s))=false):=by unfold Hid;rw[ty k1];rfl
  have b1:(k==4)=false:=by simpa using k1
  generalize (decide (k=4)&&decide (x=s))=a at *;clear k1
  go_enter Tryz.func130,Tryz.ntmps130
  go_wp2_with fail
  go_ret
  exact⟨zF HA.out.symm,gb (j1 _) _⟩
theorem V1(w:World)(t:PT):Calls Tryz.prog 131 #[Qg t] w fun e w'=>e=.returned (.bool (oC t))/\Below w.heap.size w w':=by
 have HA:Hid (oC t=(decide (t.k=2)&&(decide (t.s=[121,101,115]) || decide (t.s=[110,111])))):=rfl;generalize oC t=ans at *;obtain⟨k,x,v,p⟩:=t;simp only[Qg]at *;by_cases k1:k=2
 ·by_cases k2:x=[121,101,115]
  ·rw[tu k1,tu k2]at HA
   have b2:(x==[121,101,115])=true:=by simpa using k2
   clear k2
   go_enter Tryz.func131,Tryz.ntmps131
   go_wp2_with fail
   go_ret
   exact⟨zF HA.out.symm,gb (j1 _) _⟩
  ·rw[tu k1,ty k2,mz,bf]at HA
   have b2:(x==[121,101,115])=false:=by simpa using k2
   have hd:decide (x=[110,111])=(x==[110,111]):=by rw[dn];simp
   rw[hd]at HA;clear k2 hd
   go_enter Tryz.func131,Tryz.ntmps131
   go_wp2_with fail
   go_ret
   exact⟨zF HA.out.symm,gb (j1 _) _⟩
 ·rw[ty k1,cp]at HA
  have b1:(k==2)=false:=by simpa using k1
  clear k1
  go_enter Tryz.func131,Tryz.ntmps131
  go_wp2_with fail
  go_ret
  exact⟨zF HA.out.symm,gb (j1 _) _⟩
theorem zIZ(w:World)(f:Ju)(x:zQ):Calls Tryz.prog 87 #[fJ f,ZQ x] w fun e w'=>e=.returned (.bool (bO f x))/\Below w.heap.size w w':=by
 have HA:Hid (bO f x=if x.isFlag then !f.isNum else f.isNum&&(decide (x.low<=f.value)&&decide (f.value<=x.high))):=rfl;have HB0:=zA (show ∀o1 o2,Below w.heap.size w ((w.alloc o1).alloc o2) from fun o1 o2=>(gb (j1 _) _).alloc (by simp) _);generalize bO f x=ans at *;obtain⟨fn,fi,fv⟩:=f;obtain⟨xn,xf,xl,xh⟩:=x;simp only[fJ,ZQ]at *;cases xf
 ·simp only[Bool.false_eq_true,if_false]at HA
  cases fi
  ·simp only[cp]at HA
   go_enter Tryz.func87,Tryz.ntmps87
   go_wp2_with fail
   go_ret
   exact⟨zF HA.out.symm,HB0.out _ _⟩
  ·simp only[mz]at HA
   by_cases k1:xl<=fv
   ·rw[tu k1,mz]at HA
    go_enter Tryz.func87,Tryz.ntmps87
    go_wp2_with fail
    go_ret
    exact⟨zF HA.out.symm,HB0.out _ _⟩
   ·rw[ty k1,cp]at HA
    have k2:decide (xl<=fv)=false:=ty k1
    go_enter Tryz.func87,Tryz.ntmps87
    go_wp2_with fail
    go_ret
    exact⟨zF HA.out.symm,HB0.out _ _⟩
 ·simp only[dt]at HA
  go_enter Tryz.func87,Tryz.ntmps87
  go_wp2_with fail
  go_ret
  exact⟨zF HA.out.symm,HB0.out _ _⟩
theorem JZ:(Tryz.prog.info? 200).map (·.size)=some 3:=by kernel_rfl
theorem zAJ(w:World)(n v:PT):Calls Tryz.prog 85 #[Qg n,Qg v] w fun e w'=>e=.returned (fJ (qV n v))/\Below w.heap.size w w':=by
 have HA:Hid (qV n v=if v.k=3 then ⟨n.s,true,v.v⟩ else ⟨n.s,false,if v.s=[121,101,115] then 1 else 0⟩):=rfl;generalize qV n v=ans at *;obtain⟨nk,ns,nv,np⟩:=n;obtain⟨vk,vs,vv,vp⟩:=v;simp only[Qg]at *;by_cases k1:vk=3
 ·rw[tl k1]at HA
  subst k1
  go_enter Tryz.func85,Tryz.ntmps85
  go_wp2_with fail
  refine pe (v:=fJ ⟨ns,true,vv⟩) (results_cell_row Tryz.results85 _ _ (w.heap.size+1+1) 200 #[.string ⟨ns.toArray⟩,.bool true,.int .i64 vv] (0,0) _ rfl (by repeat (with_reducible first|(refine yS _ _ _ ?_;simp;done)|refine zS ?_)) Tryz.underlying200 rfl JZ) rfl ⟨by rw[HA.out],(((gb (j1 _) _).alloc (by simp) _).alloc (by simp;omega) _)⟩
 ·rw[tb k1]at HA
  have b1:(vk==3)=false:=by simpa using k1
  clear k1;by_cases k2:vs=[121,101,115]
  ·rw[tl k2]at HA
   have b2:(vs==[121,101,115])=true:=by simpa using k2
   clear k2
   go_enter Tryz.func85,Tryz.ntmps85
   go_wp2_with fail
   refine pe (v:=fJ ⟨ns,false,1⟩) (results_cell_row Tryz.results85 _ _ (w.heap.size+1+1) 200 #[.string ⟨ns.toArray⟩,.bool false,.int .i64 1] (0,0) _ rfl (by repeat (with_reducible first|(refine yS _ _ _ ?_;simp;done)|refine zS ?_)) Tryz.underlying200 rfl JZ) rfl ⟨by rw[HA.out],((((gb (j1 _) _).alloc (by simp) _).alloc (by simp;omega) _).alloc (by simp;omega) _)⟩
  ·rw[tb k2]at HA
   have b2:(vs==[121,101,115])=false:=by simpa using k2
   clear k2
   go_enter Tryz.func85,Tryz.ntmps85
   go_wp2_with fail
   refine pe (v:=fJ ⟨ns,false,0⟩) (results_cell_row Tryz.results85 _ _ (w.heap.size+1+1) 200 #[.string ⟨ns.toArray⟩,.bool false,.int .i64 0] (0,0) _ rfl (by repeat (with_reducible first|(refine yS _ _ _ ?_;simp;done)|refine zS ?_)) Tryz.underlying200 rfl JZ) rfl ⟨by rw[HA.out],((((gb (j1 _) _).alloc (by simp) _).alloc (by simp;omega) _).alloc (by simp;omega) _)⟩
def Ul(t:PT)(i:Nat):Bool :=
 if i%4=0 then decide (t.k=2) else if i%4=1 then decide (t.k=4)&&decide (t.s=[61])
 else if i%4=2 then decide (t.k=3) || oC t else decide (t.k=4)&&decide (t.s=[59])
def nO(P:List PT):Nat->Nat->Bool
 | 0,_=>false
 | n+1,i=>if i%4=0/\(yK P i).k=0 then true else Ul (yK P i) i&&nO P n (i+1)
def dG(P:List PT):Bool:=nO P P.length 0
def tG(P:List PT)(I:List zQ):Nat->Nat->List Int × List Bool->Option (List Int × List Bool)
 | 0,_,st=>some st
 | n+1,i,st =>
   if i*4+4<P.length then
    (if zH (I.map zQ.name) (qV (yK P (i*4)) (yK P (i*4+2))).name<0 then none
     else if st.2.getD (zH (I.map zQ.name) (qV (yK P (i*4)) (yK P (i*4+2))).name).toNat false=true then none
     else if bO (qV (yK P (i*4)) (yK P (i*4+2))) (I.getD (zH (I.map zQ.name) (qV (yK P (i*4)) (yK P (i*4+2))).name).toNat iI)=false then none
     else tG P I n (i+1) (st.1.set (zH (I.map zQ.name) (qV (yK P (i*4)) (yK P (i*4+2))).name).toNat (qV (yK P (i*4)) (yK P (i*4+2))).value,st.2.set (zH (I.map zQ.name) (qV (yK P (i*4)) (yK P (i*4+2))).name).toNat true))
   else some st
def xD(I:List zQ)(f:Bs):List Int × Int :=
 if 300<f.length then ([],1)
 else if dG (bB f)=false then ([],2)
 else match tG (bB f) I (bB f).length 0 (List.replicate I.length 0,List.replicate I.length false) with
  | none=>([],10)
  | some st=>if st.2.all id then (st.1,0) else ([],10)
def Qq(f:Bs)(i:Nat):Ju:=qV (yK (bB f) (i*4)) (yK (bB f) (i*4+2))
def jK(I:List zQ)(f:Bs)(i:Nat):Int:=zH (I.map zQ.name) (Qq f i).name
def zAD(I:List zQ)(f:Bs)(i:Nat):Prop:=bO (Qq f i) (I.getD (jK I f i).toNat iI)=true
theorem KL{α:Type}(l:List α)(i j:Nat)(x d:α)(hi:i<l.length):(l.set i x).getD j d=if j=i then x else l.getD j d:=by
 unfold List.getD;rw[List.getElem?_set];by_cases h:i=j
 ·subst h;simp[hi]
 ·rw[tb h,tb (fun e=>h e.symm)]
structure Kl(I:List zQ)(f:Bs)(i:Nat)(st:List Int × List Bool):Prop where
 l1:st.1.length=I.length
 l2:st.2.length=I.length
 giv:∀j,j<I.length->(st.2.getD j false=true ↔ bX (jK I f) j i=1)/\bX (jK I f) j i<=1
 val:∀(k j:Nat),k<i->jK I f k=(j:Int)->st.1.getD j 0=(Qq f k).value
 ok:∀k,k<i->0<=jK I f k/\zAD I f k
theorem zHU(I:List zQ)(f:Bs)(i:Nat):jK I f i<I.length:=by have:=jP (I.map zQ.name) (Qq f i).name;unfold jK;simpa using this.2
def DU(I:List zQ)(f:Bs)(m:Nat):Prop:=(∀k,k<m->0<=jK I f k/\zAD I f k)/\∀j,j<I.length->bX (jK I f) j m=1
theorem uj(I:List zQ)(f:Bs)(m:Nat)(hm:(vM f 0).length=4*m):∀n i st,m+1<=n+i->i<=m->Kl I f i st ->
 (∃st',tG (bB f) I n i st=some st'/\Kl I f m st')\/(tG (bB f) I n i st=none/\¬DU I f m):=by
 have hl:=lH f;intro n
 induction n with
 | zero=>intro i st h1 h2;omega
 | succ n ih =>
   intro i st h1 h2 zLO;rw[tG];by_cases zKZ:i<m
   ·rw[tl (by omega)]
    have hpl:=zHU I f i;by_cases k1:jK I f i<0
    ·refine .inr ⟨tl k1,fun hh=>?_⟩
     have:=(hh.1 i zKZ).1;omega
    ·by_cases k2:st.2.getD (jK I f i).toNat false=true
     ·refine .inr ⟨(tb k1).trans (tl k2),fun hh=>?_⟩
      have h3:=((zLO.giv (jK I f i).toNat (by omega)).1).1 k2;have h4:=hh.2 (jK I f i).toNat (by omega);have h5:bX (jK I f) (jK I f i).toNat (i+1)<=bX (jK I f) (jK I f i).toNat m:=VX _ _ (by omega);rw[bX,tl (by omega)]at h5;omega
     ·by_cases k3:bO (Qq f i) (I.getD (jK I f i).toNat iI)=false
      ·refine .inr ⟨(tb k1).trans ((tb k2).trans (tl k3)),fun hh=>?_⟩
       have:=(hh.1 i zKZ).2;unfold zAD at this;rw[k3]at this;cases this
      ·have hc0:bX (jK I f) (jK I f i).toNat i=0:=by
        have a:=zLO.giv (jK I f i).toNat (by omega);have b:¬bX (jK I f) (jK I f i).toNat i=1:=fun e=>k2 (a.1.2 e);have:=a.2;omega
       have hnext:Kl I f (i+1) (st.1.set (jK I f i).toNat (Qq f i).value,st.2.set (jK I f i).toNat true):=by
        refine⟨by simp[zLO.l1],by simp[zLO.l2],fun j hj=>?_,fun k j hk hkj=>?_,fun k hk=>?_⟩
        ·have h9:=zLO.giv j hj
         simp only;rw[KL _ _ _ _ _ (by rw[zLO.l2];omega),bX];by_cases e:j=(jK I f i).toNat
         ·rw[tl e,tl (by omega),e,hc0];simp
         ·rw[tb e,tb (by omega)];exact h9
        ·simp only
         rw[KL _ _ _ _ _ (by rw[zLO.l1];omega)];rcases md k i with h7|h7
         ·by_cases e:j=(jK I f i).toNat
          ·exfalso
           have:1<=bX (jK I f) j i:=by
            have h8:bX (jK I f) j (k+1)<=bX (jK I f) j i:=VX _ _ (by omega);rw[bX,tl hkj]at h8;omega
           rw[e]at this;omega
          ·rw[tb e];exact zLO.val k j h7 hkj
         ·obtain rfl:k=i:=by omega
          rw[tl (by omega)]
        ·rcases md k i with h7|h7
         ·exact zLO.ok k h7
         ·obtain rfl:k=i:=by omega
          exact⟨by omega,by unfold zAD;cases hx:bO (Qq f k) (I.getD (jK I f k).toNat iI) with|true=>rfl|false=>exact absurd hx k3⟩
       have:=ih (i+1) _ (by omega) (by omega) hnext;rcases this with ⟨st',e1,e2⟩|⟨e1,e2⟩
       ·exact .inl ⟨st',(tb k1).trans ((tb k2).trans ((tb k3).trans e1)),e2⟩
       ·exact .inr ⟨(tb k1).trans ((tb k2).trans ((tb k3).trans e1)),e2⟩
   ·obtain rfl:i=m:=by omega
    rw[tb (by omega)];exact .inl ⟨st,rfl,zLO⟩
theorem zJD(l:List Bool):l.all id=true ↔ ∀j,j<l.length->l.getD j false=true:=by
 rw[List.all_eq_true];constructor
 ·intro h j hj;have:=h (l.getD j false) (by simp[List.getD,hj]);simpa using this
 ·intro h x hx
  obtain⟨j,hj,rfl⟩:=cq hx;have:=h j hj;simpa[List.getD,hj] using this
theorem uk(I:List zQ)(f:Bs)(m:Nat)(hm:(vM f 0).length=4*m) :
 (DU I f m->∃L,(match tG (bB f) I (bB f).length 0 (List.replicate I.length 0,List.replicate I.length false) with|none=>(([],10):List Int × Int)|some st=>if st.2.all id then (st.1,0) else ([],10))=(L,0)/\L.length=I.length/\∀(k j:Nat),k<m->jK I f k=(j:Int)->L.getD j 0=(Qq f k).value) /\
 (¬DU I f m->(match tG (bB f) I (bB f).length 0 (List.replicate I.length 0,List.replicate I.length false) with|none=>(([],10):List Int × Int)|some st=>if st.2.all id then (st.1,0) else ([],10))=([],10)):=by
 have hl:=lH f
 have h0:Kl I f 0 (List.replicate I.length 0,List.replicate I.length false):=by
  refine⟨by simp,by simp,fun j hj=>?_,fun k j hk=>by omega,fun k hk=>by omega⟩;simp[bX,List.getD,hj]
 rcases uj I f m hm (bB f).length 0 _ (by omega) (p7 _) h0 with ⟨st,e1,e2⟩|⟨e1,e2⟩
 ·rw[e1]
  simp only
  have hall:st.2.all id=true ↔ ∀j,j<I.length->bX (jK I f) j m=1:=by
   rw[zJD,e2.l2];exact⟨fun h j hj=>(e2.giv j hj).1.1 (h j hj),fun h j hj=>(e2.giv j hj).1.2 (h j hj)⟩
  constructor
  ·intro hg
   rw[tl (hall.2 hg.2)];exact⟨st.1,rfl,e2.l1,e2.val⟩
  ·intro hg
   rw[tb (fun h=>hg ⟨e2.ok,hall.1 h⟩)]
 ·rw[e1]
  exact⟨fun hg=>absurd hg e2,fun _=>rfl⟩
theorem Xv(h:vL ls):(vX ls).Nodup:=by
 have key:∀n,n<=ls.length->(vX (ls.take n)).Nodup:=by
  intro n
  induction n with
  | zero=>intro _;simp[vX,zX,cY]
  | succ n ih =>
    intro hn;have ih:=ih (by omega);rw[fX,bP ls n (by omega),dq,bi];rw[fX]at ih;by_cases hk:(lA ls n).kind=1\/(lA ls n).kind=2
    ·rw[List.filter_cons_of_pos (by simpa using hk),fa,List.nodup_append]
     refine⟨ih,by simp,fun a ha b hb=>?_⟩;simp only[da,List.map_nil,pr]at hb;subst hb;intro e;subst e;have hm:=(Xg (ls.take n) (lA ls n).name).1 (by rw[fX];exact ha);have he:=h.err n (by omega)
     have zL9:fY ls n=0:=by
      unfold mM at he;rcases hk with k|k
      ·rw[tl k]at he
       unfold iE at he;by_cases h0:fY ls n=0
       ·exact h0
       ·rw[tb h0]at he;exact he
      ·rw[tb (by omega),tl k]at he;exact he
     unfold fY at zL9;rcases hm with hm|hm
     ·rw[hm,fq,tl rfl]at zL9;exact absurd zL9 (by decide)
     ·rw[hm,fq,Bool.or_true,tl rfl]at zL9;exact absurd zL9 (by decide)
    ·rw[List.filter_cons_of_neg (by simpa using hk),fa];simpa using ih
 have:=key ls.length (j1 _)
 rwa [bw]at this
theorem X5{α β:Type}(f:α->β)(l:List α)(j:Nat)(d:α)(d':β)(h:j<l.length):(l.map f).getD j d'=f (l.getD j d):=by simp[List.getD,h]
def zu(ls:List zE):List zE:=ls.filter fun x=>decide (x.kind=1\/x.kind=2)
theorem JQ(h:x∈zu ls):x.kind=1\/x.kind=2:=ce (mj.1 h).2
theorem X0(ls:List zE):vX ls=(zu ls).map zE.name:=fX ls
theorem Xx(ls:List zE):zX ls=(zu ls).map mB:=by unfold zX;rw[Xw,db];rfl
end Go.Proofs.YtnbpdffdnphbeabGreatDoor
