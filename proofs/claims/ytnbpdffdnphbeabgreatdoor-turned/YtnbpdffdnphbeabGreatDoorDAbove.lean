import Derived.Test.YtnbpdffdnphbeabGreatDoorMState
set_option maxHeartbeats 2000000
namespace Go.Proofs.YtnbpdffdnphbeabGreatDoor
open Go.RowKit
variable{ls:List zE}{c r:Nat}{f g:Nat->Bool}{x:zE}
def Y1(ins cs:List Bs)(s:yZ):Qz:=⟨fun nm=>kY s.has (zH cs nm),fun nm=>qK s.inputs (zH ins nm)⟩
theorem zIT(ins cs:List Bs)(s:yZ)(hs:List Bool)(x:zR):KP (mD ins cs x) s hs=Kc (Y1 ins cs s) hs x:=by
 unfold KP Kc mD;simp only;by_cases h1:x.kind=1
 ·rw[tl h1,tl h1]
 rw[tb h1,tb h1];by_cases h2:x.kind=2
 ·rw[tl h2,tl h2]
 rw[tb h2,tb h2];by_cases h3:x.kind=3
 ·rw[tl h3,tl h3]
 rw[tb h3,tb h3];by_cases h4:x.kind=4
 ·rw[tl h4,tl h4]
 rw[tb h4,tb h4];by_cases h5:x.kind=5
 ·rw[tl h5,tl h5];unfold UP Y1;rw[tl h5]
 rw[tb h5,tb h5];by_cases h6:x.kind=6
 ·rw[tl h6,tl h6];unfold UP Y1;rw[tb h5,tl (.inl h6)]
 rw[tb h6,tb h6];by_cases h7:x.kind=7
 ·rw[tl h7,tl h7]
  have e1:UP ins cs x=zH ins x.name:=by unfold UP;rw[tb h5,tl (.inr h7)]
  have e2:(if decide (x.other≠[])=true then qK s.inputs (zH3 ins x) else x.num)=(if x.other=[] then x.num else (Y1 ins cs s).inp x.other):=by
   by_cases ho:x.other=[]
   ·simp[ho]
   ·simp only[ho,ne_eq,not_false_eq_true,decide_true,dw,if_false];unfold zH3 Y1;rw[tb ho]
  unfold QJ zC2;simp only;rw[e1,e2,show (Y1 ins cs s).inp x.name=qK s.inputs (zH ins x.name) from rfl];generalize qK s.inputs (zH ins x.name)=p;generalize (if x.other=[] then x.num else (Y1 ins cs s).inp x.other)=q;by_cases k1:p<q
  ·rw[tl k1,tl k1];rfl
  ·rw[tb k1,tb k1]
   by_cases k2:p=q
   ·rw[tb (by omega),tl k2];rfl
   ·rw[tl (by omega),tb k2];rfl
 ·rw[tb h7,tb h7]
theorem zJA(ins cs:List Bs)(s:yZ)(N:List zR):∀hs,dB s (N.map (mD ins cs)) hs=KQ (Y1 ins cs s) N hs:=by
 induction N with
 | nil=>intro hs;rfl
 | cons x r ih=>intro hs;rw[dc,dB,KQ,zIT,ih]
theorem kX(l:List Bs)(nm:Bs) : -1<=zH l nm/\zH l nm<l.length:=by
 have:=rW nm l 0;unfold zH;omega
structure RuOk(ins cs:List Bs)(x:zE):Prop where
 nodes:∀y∈x.nd,(y.kind=5->zH ins y.name<0/\0<=zH cs y.name)/\(y.kind=6->0<=zH ins y.name)/\(y.kind=7->0<=zH ins y.name/\(y.other≠[]->0<=zH ins y.other))
 parts:∀p∈x.sum,p.name=[]\/0<=zH ins p.name\/0<=zH cs p.name
theorem all_map{α β:Type}(f:α->β)(p:β->Bool)(l:List α):(l.map f).all p=l.all fun x=>p (f x):=by
 induction l with
 | nil=>rfl
 | cons x r ih=>rw[dc,ff,ff,ih]
theorem JE{α:Type}{p q:α->Bool}{l:List α}(h:∀x∈l,p x=q x):l.all p=l.all q:=by
 induction l with
 | nil=>rfl
 | cons x r ih=>rw[ff,ff,h x (by simp),ih fun y hy=>h y (by simp[hy])]
def zGM(w:World)(b o:Nat)(G:List Bool):Prop:=∀k,k<64->w.cell? ⟨b,o+k,none⟩=some (.bool (G.getD k false))
theorem zGM.below{w w':World}{b o:Nat}{G:List Bool}(h:zGM w b o G)(hb:Below w.heap.size w w'):zGM w' b o G:=fun k hk=>by
 rw[hb.cell (p:=⟨b,o+k,none⟩) (yR (h k hk))];exact h k hk
def nU(G:List Bool)(a b:Int):Bool:=(decide (0<=a)&&decide (a<8))&&((decide (0<=b)&&decide (b<8))&&gA G a.toNat b.toNat)
theorem zK7(w:World)(g o:Nat)(G:List Bool)(a b:Int)(h:zGM w g o G) :
 Calls Tryz.prog 140 #[.pointer (some ⟨g,o,none⟩),.int .i64 a,.int .i64 b] w fun e w'=>e=.returned (.bool (nU G a b))/\w'=w:=by
 have HA:Hid (nU G a b=((decide (0<=a)&&decide (a<8))&&((decide (0<=b)&&decide (b<8))&&gA G a.toNat b.toNat))):=rfl;have HP:=zA (fun k w=>bY k w);generalize nU G a b=ans at *;by_cases ka:0<=a/\a<8
 ·by_cases kb:0<=b/\b<8
  ·obtain⟨na,rfl⟩:∃n:Nat,a=(n:Int):=⟨a.toNat,by omega⟩
   obtain⟨nb,rfl⟩:∃n:Nat,b=(n:Int):=⟨b.toNat,by omega⟩;have HA2:Hid (ans=gA G na nb):=by have:=HA.out;rw[tr ka.1,tr ka.2,tr kb.1,tr kb.2]at this;simpa[Hid] using this
   have hc:=h (na*8+nb) (by omega);rw[<-dg]at hc;have HA3:Hid (ans=G.getD (na*8+nb) false):=HA2;have HP1:Hid (∀w:World,Calls Tryz.prog 158 #[.int .i64 (na:Int)] w fun e w'=>e=.returned (.bool true)/\w'=w):=fun w=>by have:=HP.out (na:Int) w;rw[tr ka.1,tr ka.2]at this;exact this
   have HP2:Hid (∀w:World,Calls Tryz.prog 158 #[.int .i64 (nb:Int)] w fun e w'=>e=.returned (.bool true)/\w'=w):=fun w=>by have:=HP.out (nb:Int) w;rw[tr kb.1,tr kb.2]at this;exact this
   have la:na<8:=by omega
   have lb:nb<8:=by omega
   clear HA HA2 HP h ka kb;generalize G.getD (na*8+nb) false=z at *
   go_enter Tryz.func140,Tryz.ntmps140
   go_wp2_with fail
   refine(HP1.out _).mono ?_;rintro e w' ⟨rfl,hw⟩;obtain rfl:=hw.symm;go_wp2_with fail
   refine(HP2.out _).mono ?_;rintro e w' ⟨rfl,hw⟩;obtain rfl:=hw.symm;go_wp2_with fail
   go_ret
   exact⟨zF HA3.out.symm,rfl⟩
  ·have hb:(decide (0<=b)&&decide (b<8))=false:=by
    rcases cy b 0 with h1|h1
    ·rw[tu (by omega)];rfl
    ·rw[tu (show ¬b<8 by omega)];simp
   have HA2:Hid (ans=false):=by have:=HA.out;rw[hb]at this;simpa[Hid] using this
   have HP1:Hid (∀w:World,Calls Tryz.prog 158 #[.int .i64 a] w fun e w'=>e=.returned (.bool true)/\w'=w):=fun w=>by have:=HP.out a w;rw[tr ka.1,tr ka.2]at this;exact this
   have HP2:Hid (∀w:World,Calls Tryz.prog 158 #[.int .i64 b] w fun e w'=>e=.returned (.bool false)/\w'=w):=fun w=>by have:=HP.out b w;rw[hb]at this;exact this
   clear HA HP h hb ka kb
   go_enter Tryz.func140,Tryz.ntmps140
   go_wp2_with fail
   refine(HP1.out _).mono ?_;rintro e w' ⟨rfl,hw⟩;obtain rfl:=hw.symm;go_wp2_with fail
   refine(HP2.out _).mono ?_;rintro e w' ⟨rfl,hw⟩;obtain rfl:=hw.symm;go_wp2_with fail
   go_ret
   exact⟨zF HA2.out.symm,rfl⟩
 ·have ha:(decide (0<=a)&&decide (a<8))=false:=by
   rcases cy a 0 with h1|h1
   ·rw[tu (by omega)];rfl
   ·rw[tu (show ¬a<8 by omega)];simp
  have HA2:Hid (ans=false):=by have:=HA.out;rw[ha]at this;simpa[Hid] using this
  have HP1:Hid (∀w:World,Calls Tryz.prog 158 #[.int .i64 a] w fun e w'=>e=.returned (.bool false)/\w'=w):=fun w=>by have:=HP.out a w;rw[ha]at this;exact this
  clear HA HP h ha ka
  go_enter Tryz.func140,Tryz.ntmps140
  go_wp2_with fail
  refine(HP1.out _).mono ?_;rintro e w' ⟨rfl,hw⟩;obtain rfl:=hw.symm;go_wp2_with fail
  go_ret
  exact⟨zF HA2.out.symm,rfl⟩
theorem fN(w:World)(b o:Nat)(G:List Bool)(x y:Int)(h:zGM w b (o+3) G) :
 Calls Tryz.prog 94 #[.pointer (some ⟨b,o,none⟩),.int .i64 x,.int .i64 y] w fun e w'=>e=.returned (.bool (nU G x y))/\w'=w:=by
 have HG:=zA (zK7 w b (o+3) G x y h);clear h;generalize nU G x y=z at *
 go_enter Tryz.func94,Tryz.ntmps94
 go_wp2_with fail
 refine HG.out.mono ?_;rintro e w' ⟨rfl,hw⟩;obtain rfl:=hw.symm;go_wp2_with fail
 go_ret
 exact⟨rfl,rfl⟩
structure xX(ls:List zE):Prop where
 many:∀i,i<ls.length->jL ls i=false
 err:∀i,i<ls.length->jQ ls i=0
 nam:qV (qN (zJ ls) ls gZ)=false
 ord:qV (uE (yW ls) ls gZ)=false
theorem zHD(h:(qG ls).1=0):xX ls:=by
 revert h
 unfold qG
 cases hm:fX ls ls.length 0 with
 | some i=>intro h;exact absurd (show (3:Int)=0 from h) (by decide)
 | none =>
   have hmany:=fun i (hi:i<ls.length)=>BY ls.length 0 hm i (tx _) (by omega);simp only;unfold Zi
   cases he:aL ls ls.length 0 with
   | some i =>
     intro h;exfalso
     have h1:jQ ls i=0:=h
     have:∀n i j,aL ls n i=some j->jQ ls j≠0:=by
      intro n
      induction n with
      | zero=>intro i j h;simp[aL]at h
      | succ n ih=>intro i j h;rw[aL]at h;split at h
                   ·exact ih _ _ h
                   ·rename_i zLO;obtain rfl:=Option.some.inj h;exact zLO
     exact this _ _ _ he h1
   | none =>
     have herr:=fun i (hi:i<ls.length)=>yi ls.length 0 he i (tx _) (by omega);simp only;unfold eL;intro h
     cases hr:qV (qN (zJ ls) ls gZ) with
     | true=>rw[hr,tl rfl]at h;exact absurd (show (7:Int)=0 from h) (by decide)
     | false =>
       rw[hr,tb (by decide)]at h
       cases hs:qV (uE (yW ls) ls gZ) with
       | true=>rw[hs,tl rfl]at h;exact absurd (show (7:Int)=0 from h) (by decide)
       | false=>exact⟨hmany,herr,hr,hs⟩
theorem xX.rules(h:xX ls):xT 3 ls<=8:=zu h.many
theorem XM(ls:List zE):(zJ ls).length<=xT 3 ls:=by have:=(ZF ls [] (by simp)).2.2;simpa[zJ] using this
theorem nT(ls:List zE):(zJ ls).Nodup:=(ZF ls [] (by simp)).1
theorem xX.heads(h:xX ls):(zJ ls).length<=8:=ty (XM ls) h.rules
theorem sY(ls:List zE)(nm:Bs):nm∈zJ ls ↔ jE ls nm=true:=by
 have:=(ZF ls [] (by simp)).2.1 nm;unfold zJ jE;simpa using this
theorem gM(l:List Bs)(nm:Bs):0<=zH l nm ↔ nm∈l:=by
 have:=gO nm l 0;unfold zH;constructor
 ·intro h;exact Classical.not_not.1 fun hn=>by have:=this.2 hn;omega
 ·intro h;rcases cy (qL nm l 0) 0 with h1|h1
  ·exact absurd h (this.1 h1)
  ·exact h1
theorem Xz(ls:List zE)(nm:Bs):nm∈xR ls ↔ (vQ ls 1 nm=true\/vQ ls 2 nm=true):=by
 rw[gE];simp only[p7,mh,vQ,ma,iP,pe,po];constructor
 ·rintro⟨x,⟨h1,h2|h2⟩,h3⟩
  ·exact .inl ⟨x,h1,h2,h3⟩
  ·exact .inr ⟨x,h1,h2,h3⟩
 ·rintro(⟨x,h1,h2,h3⟩|⟨x,h1,h2,h3⟩)
  ·exact⟨x,⟨h1,.inl h2⟩,h3⟩
  ·exact⟨x,⟨h1,.inr h2⟩,h3⟩
theorem fK(h:x∈ls):∃i,i<ls.length/\lA ls i=x:=by
 obtain⟨i,hi,rfl⟩:=cw h;exact⟨i,hi,by simp[lA,List.getD,hi]⟩
theorem xX.apart(h:xX ls){nm:Bs}(h1:nm∈xR ls):jE ls nm=false:=by
 rw[gE]at h1;obtain⟨x,hx,rfl⟩:=p7.1 h1;obtain⟨hm,hk⟩:=mh.1 hx;obtain⟨i,hi,rfl⟩:=fK hm;have he:=h.err i hi
 have zLT:bE ls i=0:=by
  unfold jQ at he;rcases(cb hk:(lA ls i).kind=1\/(lA ls i).kind=2) with k|k
  ·rw[tl k]at he
   unfold rE at he;by_cases h0:bE ls i=0
   ·exact h0
   ·rw[tb h0]at he;exact he
  ·rw[tb (by omega),tl k]at he;exact he
 unfold bE at zLT
 cases hc:jE ls (lA ls i).name with
 | false=>rfl
 | true=>rw[hc,Bool.or_true,Bool.or_true,tl rfl]at zLT;exact absurd zLT (by decide)
theorem xX.ruOk(h:xX ls)(hx:x∈ls)(hk:x.kind=3):RuOk (xR ls) (zJ ls) x:=by
 obtain⟨i,hi,rfl⟩:=fK hx;have he:=h.err i hi;unfold jQ at he;rw[tb (by omega),tb (by omega),tl hk]at he;unfold pJ at he
 have hb:(vQ (ls.take i) 3 (lA ls i).name || ((lA ls i).sum.any (fun x => !uP ls x) || (lA ls i).nd.any (fun x => !xS ls x)))=false:=by
  cases hc:(vQ (ls.take i) 3 (lA ls i).name || ((lA ls i).sum.any (fun x => !uP ls x) || (lA ls i).nd.any (fun x => !xS ls x))) with
  | false=>rfl
  | true=>rw[hc,tl rfl]at he;exact absurd he (by decide)
 rw[bh,bh]at hb;obtain⟨-,hp,hn⟩:=hb;have hn':∀y∈(lA ls i).nd,xS ls y=true:=fun y hy=>by have:=List.any_eq_false.1 hn y hy;simpa using this
 have hp':∀y∈(lA ls i).sum,uP ls y=true:=fun y hy=>by have:=List.any_eq_false.1 hp y hy;simpa using this
 have hin1:∀nm,vQ ls 1 nm=true->0<=zH (xR ls) nm:=fun nm hh=>(gM _ _).2 ((Xz _ _).2 (.inl hh));have hin2:∀nm,vQ ls 2 nm=true->0<=zH (xR ls) nm:=fun nm hh=>(gM _ _).2 ((Xz _ _).2 (.inr hh))
 have hco:∀nm,jE ls nm=true->zH (xR ls) nm<0/\0<=zH (zJ ls) nm:=fun nm hh=>by
  refine⟨?_,(gM _ _).2 ((sY _ _).2 hh)⟩;rcases cy (zH (xR ls) nm) 0 with h1|h1
  ·exact h1
  ·have:=h.apart ((gM _ _).1 h1);rw[hh]at this;cases this
 refine⟨fun y hy=>?_,fun p hp2=>?_⟩
 ·have:=hn' y hy
  unfold xS at this;refine⟨fun k=>?_,fun k=>?_,fun k=>?_⟩
  ·rw[tl k]at this;exact hco _ this
  ·rw[tb (by omega),tl k]at this;exact hin2 _ this
  ·rw[tb (by omega),tb (by omega),tl k,pe,bg,po]at this
   exact⟨hin1 _ this.2,fun ho=>hin1 _ (this.1.resolve_left ho)⟩
 ·have:=hp' p hp2
  unfold uP Xa at this;rw[bg,bg,po]at this;rcases this with h1|h1|h1
  ·exact .inl h1
  ·exact .inr (.inl (hin1 _ h1))
  ·exact .inr (.inr (hco _ h1).2)
theorem xX.sums(h:xX ls)(hx:x∈ls)(hk:x.kind=3):x.sum.length<=4/\∀p∈x.sum,p.starred=true->p.num<=9:=by
 obtain⟨i,hi,rfl⟩:=fK hx;have he:=h.many i hi;unfold jL VF tR at he;rw[tr hk,my,bh,bh,bh,bh]at he;obtain⟨-,-,-,h1,h2⟩:=he;refine⟨by have:=of_decide_eq_false h1;omega,fun p hp hs=>?_⟩;have:=List.any_eq_false.1 h2 p hp;unfold tZ at this;rw[hs]at this;simpa using this
theorem xX.labs(h:xX ls):(yW ls).Nodup:=by
 refine Cg ls fun i hi hk=>?_;have he:=h.err i hi;unfold jQ at he;rw[tb (by omega),tb (by omega),tl hk]at he;unfold pJ at he
 cases hc:vQ (ls.take i) 3 (lA ls i).name with
 | false=>rfl
 | true=>rw[hc,fq,tl rfl]at he;exact absurd he (by decide)
structure pE where
 n:Nat
 head:Nat->Nat
 abv:Nat->Nat->Bool
 app:Nat->(Nat->Bool)->Bool
 sum:Nat->(Nat->Int)->Int
 lev:Nat->Nat
 nm:Nat->Nat->Prop
 happ:∀r f g,r<n->(∀c,nm r c->f c=g c)->app r f=app r g
 hsum:∀r f g,r<n->(∀c,nm r c->f c=g c)->sum r f=sum r g
 hlev:∀r c,r<n->nm r c->lev c<lev (head r)
 habv:∀k r,k<n->r<n->abv k r=true->head k=head r
def kP(A:pE)(on:Nat->Bool)(r:Nat):Bool:=(List.range A.n).any fun k=>on k&&A.abv k r
def Yb(A:pE)(on:Nat->Bool)(r:Nat):Int:=if on r then (if kP A on r then 1 else 2) else 0
def xL(A:pE)(on:Nat->Bool)(c:Nat):List Nat:=(List.range A.n).filter fun r=>decide (A.head r=c)&&(on r && !kP A on r)
def fZ:List Nat->Int
 | []=>0
 | [_]=>1
 | _=>2
def oP(f:Nat->Int):List Nat->Int
 | [r]=>f r
 | _=>0
def wR(A:pE)(on:Nat->Bool)(c:Nat):Int:=fZ (xL A on c)
def zH0(A:pE)(has:Nat->Bool):Nat->Bool:=fun c=>decide (wR A (fun r=>A.app r has) c=1)
def D9(A:pE)(has:Nat->Bool)(val:Nat->Int):Nat->Int:=fun c=>oP (fun r=>A.sum r val) (xL A (fun r=>A.app r has) c)
def lO(A:pE):Nat->Nat->Bool
 | 0=>fun _=>false
 | k+1=>zH0 A (lO A k)
def lN(A:pE):Nat->Nat->Int
 | 0=>fun _=>0
 | k+1=>D9 A (lO A k) (lN A k)
def Q7(A:pE)(k:Nat)(r:Nat):Bool:=A.app r (lO A k)
theorem iF(A:pE)(hr:r<A.n)(h:∀k,k<A.n->A.head k=A.head r->f k=g k):kP A f r=kP A g r:=by
 unfold kP;rw[ct];simp only[ma,pm,pe];constructor
 ·rintro⟨k,h1,h2,h3⟩;exact⟨k,h1,(h k h1 (A.habv k r h1 hr h3)) ▸ h2,h3⟩
 ·rintro⟨k,h1,h2,h3⟩;exact⟨k,h1,(h k h1 (A.habv k r h1 hr h3)).symm ▸ h2,h3⟩
theorem dU(A:pE)(h:∀k,k<A.n->A.head k=c->f k=g k):xL A f c=xL A g c:=by
 unfold xL;apply List.filter_congr
 intro r hr;rw[pm]at hr;by_cases hc:A.head r=c
 ·rw[h r hr hc,iF A hr (fun k hk e=>h k hk (e.trans hc))]
 ·simp[hc]
theorem YL(A:pE)(hr:r<A.n)(h:∀k,k<A.n->A.head k=A.head r->f k=g k):Yb A f r=Yb A g r:=by
 unfold Yb;rw[h r hr rfl,iF A hr h]
theorem sN(A:pE)(h:r∈xL A f c):r<A.n/\A.head r=c/\f r=true/\kP A f r=false:=by
 unfold xL at h;simpa[mh] using h
theorem nC{f g:Nat->Int}{l:List Nat}(h:∀r∈l,f r=g r):oP f l=oP g l:=by
 match l with
 | []=>rfl
 | [r]=>exact h r (by simp)
 | _::_::_=>rfl
theorem pF(A:pE):∀k c j,A.lev c<k->k<=j->lO A j c=lO A k c/\lN A j c=lN A k c:=by
 intro k
 induction k with
 | zero=>intro c j h;omega
 | succ k ih =>
   intro c j hc hj;obtain⟨j,rfl⟩:∃i,j=i+1:=⟨j-1,by omega⟩
   have hon:∀r,r<A.n->A.head r=c->A.app r (lO A j)=A.app r (lO A k):=fun r hr e=>A.happ r _ _ hr fun c' hn=>by
    have:=A.hlev r c' hr hn;rw[e]at this;exact(ih c' j (by omega) (by omega)).1
   have hs:xL A (fun r=>A.app r (lO A j)) c=xL A (fun r=>A.app r (lO A k)) c:=dU A hon;constructor
   ·show decide (fZ (xL A (fun r=>A.app r (lO A j)) c)=1)=decide (fZ (xL A (fun r=>A.app r (lO A k)) c)=1)
    rw[hs]
   ·simp only[lN,D9]
    rw[hs];refine nC fun r hr=>?_;obtain⟨h1,h2,_,_⟩:=sN A hr
    exact A.hsum r _ _ h1 fun c' hn=>by
     have:=A.hlev r c' h1 hn;rw[h2]at this;exact(ih c' j (by omega) (by omega)).2
theorem Z7(A:pE){k j:Nat}(hr:r<A.n)(hk:A.lev (A.head r)<=k)(hj:k<=j):Q7 A j r=Q7 A k r :=
 A.happ r _ _ hr fun c hn=>by
  have:=A.hlev r c hr hn;exact(pF A k c j (by omega) hj).1
structure vX where
 has:Nat->Bool
 val:Nat->Int
 ap:Nat->Bool
 vd:Nat->Int
 st:Nat->Int
 av:Nat->Int
def h0:vX:=⟨fun _=>false,fun _=>0,fun _=>false,fun _=>0,fun _=>0,fun _=>0⟩
def uG(A:pE)(c:Nat)(s:vX):vX :=
 let ap':=fun r=>if A.head r=c then A.app r s.has else s.ap r
 let l:=xL A ap' c
 { has:=fun x=>if x=c then (if l.length=1 then true else s.has x) else s.has x
   val:=fun x=>if x=c then (if l.length=1 then oP (fun r=>A.sum r s.val) l else s.val x) else s.val x
   ap:=ap'
   vd:=fun r=>if A.head r=c then (if ap' r then (if kP A ap' r then 1 else 2) else s.vd r) else s.vd r
   st:=fun x=>if x=c then (if l.length=0 then s.st x else fZ l) else s.st x
   av:=fun x=>if x=c then (if l.length=1 then oP (fun r=>A.sum r s.val) l else s.av x) else s.av x }
structure jJ(A:pE)(S:Nat->Prop)(s:vX):Prop where
 has:∀c,(S c->s.has c=lO A (A.lev c+1) c)/\(¬S c->s.has c=false)
 val:∀c,(S c->s.val c=lN A (A.lev c+1) c)/\(¬S c->s.val c=0)
 ap:∀r,r<A.n->(S (A.head r)->s.ap r=Q7 A (A.lev (A.head r)) r)/\(¬S (A.head r)->s.ap r=false)
 vd:∀r,r<A.n->(S (A.head r)->s.vd r=Yb A (Q7 A (A.lev (A.head r))) r)/\(¬S (A.head r)->s.vd r=0)
 st:∀c,(S c->s.st c=wR A (Q7 A (A.lev c)) c)/\(¬S c->s.st c=0)
 av:∀c,(S c->s.av c=lN A (A.lev c+1) c)/\(¬S c->s.av c=0)
theorem zHA(A:pE):jJ A (fun _=>False) h0:=by
 constructor <;> intros <;> exact⟨fun h=>h.elim,fun _=>rfl⟩
theorem Jm{l:List Nat}:fZ l=1 ↔ l.length=1:=by
 match l with
 | []=>simp[fZ]
 | [r]=>simp[fZ]
 | _::_::_=>simp[fZ]
theorem KX{f:Nat->Int}{l:List Nat}(h:l.length≠1):oP f l=0:=by
 match l with
 | []=>rfl
 | [r]=>simp at h
 | _::_::_=>rfl
theorem QX(A:pE){S:Nat->Prop}{s:vX}(h:jJ A S s)(hc:¬S c)(hl:∀c',A.lev c'<A.lev c->(∃r,r<A.n/\A.nm r c')->S c'):jJ A (fun x=>S x\/x=c) (uG A c s):=by
 have happ:∀r,r<A.n->A.head r=c->A.app r s.has=Q7 A (A.lev c) r:=fun r hr e=>A.happ r _ _ hr fun c' hn=>by
  have h1:=A.hlev r c' hr hn;rw[e]at h1;rw[(h.has c').1 (hl c' h1 ⟨r,hr,hn⟩)];exact(pF A (A.lev c'+1) c' (A.lev c) (by omega) (by omega)).1.symm
 have hsum:∀r,r<A.n->A.head r=c->A.sum r s.val=A.sum r (lN A (A.lev c)):=fun r hr e=>A.hsum r _ _ hr fun c' hn=>by
  have h1:=A.hlev r c' hr hn;rw[e]at h1;rw[(h.val c').1 (hl c' h1 ⟨r,hr,hn⟩)];exact(pF A (A.lev c'+1) c' (A.lev c) (by omega) (by omega)).2.symm
 have hs:xL A (fun r=>if A.head r=c then A.app r s.has else s.ap r) c=xL A (Q7 A (A.lev c)) c:=dU A fun k hk e=>by simp only[e,dw];exact happ k hk e
 have hb:∀r,r<A.n->A.head r=c->kP A (fun r=>if A.head r=c then A.app r s.has else s.ap r) r=kP A (Q7 A (A.lev c)) r:=fun r hr e=>iF A hr fun k hk e2=>by simp only[e2.trans e,dw];exact happ k hk (e2.trans e)
 have hv:oP (fun r=>A.sum r s.val) (xL A (Q7 A (A.lev c)) c)=lN A (A.lev c+1) c:=by
  simp only[lN,D9]
  exact nC fun r hr=>by
   obtain⟨h1,h2,_,_⟩:=sN A hr;exact hsum r h1 h2
 have hh:lO A (A.lev c+1) c=decide ((xL A (Q7 A (A.lev c)) c).length=1):=by
  simp only[lO,zH0,wR];exact decide_eq_decide.2 Jm
 have hx:∀c',c'≠c->((S c'\/c'=c) ↔ S c'):=fun c' zLO=>⟨fun h=>h.resolve_right zLO,.inl⟩;constructor
 ·intro x
  simp only[uG];by_cases e:x=c
  ·subst e
   refine⟨fun _=>?_,fun hn=>absurd (.inr rfl) hn⟩;rw[tl rfl,hs,hh];by_cases k:(xL A (Q7 A (A.lev x)) x).length=1
   ·rw[tl k,tr k]
   ·rw[tb k,tu k];exact(h.has x).2 hc
  ·rw[tb e,hx x e];exact h.has x
 ·intro x
  simp only[uG];by_cases e:x=c
  ·subst e
   refine⟨fun _=>?_,fun hn=>absurd (.inr rfl) hn⟩;rw[tl rfl,hs,<-hv];by_cases k:(xL A (Q7 A (A.lev x)) x).length=1
   ·rw[tl k]
   ·rw[tb k,KX k];exact(h.val x).2 hc
  ·rw[tb e,hx x e];exact h.val x
 ·intro r hr
  simp only[uG];by_cases e:A.head r=c
  ·rw[tl e]
   refine⟨fun _=>?_,fun hn=>absurd (.inr e) hn⟩;rw[happ r hr e,e]
  ·rw[tb e,hx _ e];exact h.ap r hr
 ·intro r hr
  simp only[uG];by_cases e:A.head r=c
  ·refine⟨fun _=>?_,fun hn=>absurd (Or.inr e) hn⟩
   have h9:(if A.head r=c then A.app r s.has else s.ap r)=Q7 A (A.lev c) r:=by rw[tl e,happ r hr e]
   rw[hb r hr e,tl e,show A.lev (A.head r)=A.lev c by rw[e]];unfold Yb;by_cases k:Q7 A (A.lev c) r=true
   ·rw[tl k,tl (h9.trans k)]
   ·rw[tb k,tb (fun x=>k (h9.symm.trans x))];exact(h.vd r hr).2 (by rw[e];exact hc)
  ·rw[tb e,hx _ e];exact h.vd r hr
 ·intro x
  simp only[uG];by_cases e:x=c
  ·subst e
   refine⟨fun _=>?_,fun hn=>absurd (.inr rfl) hn⟩;rw[tl rfl,hs];unfold wR;by_cases k:(xL A (Q7 A (A.lev x)) x).length=0
   ·rw[tl k,l9 k,(h.st x).2 hc];rfl
   ·rw[tb k]
  ·rw[tb e,hx x e];exact h.st x
 ·intro x
  simp only[uG];by_cases e:x=c
  ·subst e
   refine⟨fun _=>?_,fun hn=>absurd (.inr rfl) hn⟩;rw[tl rfl,hs,<-hv];by_cases k:(xL A (Q7 A (A.lev x)) x).length=1
   ·rw[tl k]
   ·rw[tb k,KX k];exact(h.av x).2 hc
  ·rw[tb e,hx x e];exact h.av x
def bC(A:pE)(H l:Nat):Nat->Nat->vX->vX
 | 0,_,s=>s
 | f+1,i,s=>bC A H l f (i+1) (if A.lev i=l then uG A i s else s)
def xN(A:pE)(H:Nat):Nat->Nat->vX->vX
 | 0,_,s=>s
 | f+1,l,s=>xN A H f (l+1) (bC A H l H 0 s)
theorem jJ.same{A:pE}{S T:Nat->Prop}{s:vX}(h:jJ A S s)(e:∀x,S x ↔ T x):jJ A T s:=by
 obtain rfl:S=T:=funext fun x=>propext (e x);exact h
theorem zA6(A:pE)(H l:Nat)(hn:∀r c,r<A.n->A.nm r c->c<H):∀f i s,i+f=H->jJ A (fun x=>x<H/\(A.lev x<l\/A.lev x=l/\x<i)) s->jJ A (fun x=>x<H/\A.lev x<l+1) (bC A H l f i s):=by
 intro f
 induction f with
 | zero=>intro i s hi h;exact h.same fun x=>by constructor <;> intro hx <;> omega
 | succ f ih =>
   intro i s hi h;rw[bC];refine ih (i+1) _ (by omega) ?_;by_cases e:A.lev i=l
   ·rw[tl e]
    refine(QX A h (c:=i) (by omega) ?_).same fun x=>?_
    ·rintro c' hc ⟨r,hr,hnm⟩
     exact⟨hn r c' hr hnm,.inl (by omega)⟩
    ·constructor
     ·rintro(h1|h1)
      ·omega
      ·subst h1;exact⟨by omega,.inr ⟨e,by omega⟩⟩
     ·rintro⟨h1,h2⟩
      by_cases k:x=i
      ·exact .inr k
      ·exact .inl ⟨h1,by omega⟩
   ·rw[tb e]
    refine h.same fun x=>?_;constructor
    ·intro hx;omega
    ·rintro⟨h1,h2⟩
     refine⟨h1,?_⟩;rcases h2 with h2|⟨h2,h3⟩
     ·exact .inl h2
     ·refine .inr ⟨h2,?_⟩
      rcases me x i with h4|h4
      ·exact h4
      ·obtain rfl:x=i:=by omega
       exact absurd h2 e
theorem GI(A:pE)(H:Nat)(hn:∀r c,r<A.n->A.nm r c->c<H):∀f l s,l+f=H->jJ A (fun x=>x<H/\A.lev x<l) s->jJ A (fun x=>x<H/\A.lev x<H) (xN A H f l s):=by
 intro f
 induction f with
 | zero=>intro l s hl h;exact h.same fun x=>by constructor <;> intro hx <;> omega
 | succ f ih =>
   intro l s hl h;rw[xN];refine ih (l+1) _ (by omega) ?_;exact zA6 A H l hn H 0 s (by omega) (h.same fun x=>by constructor <;> intro hx <;> omega)
theorem GZ(A:pE)(H:Nat)(hn:∀r c,r<A.n->A.nm r c->c<H)(hl:∀c,c<H->A.lev c<H)(hh:∀r,r<A.n->A.head r<H)(n:Nat)(hN:n+1=H) :
 (∀r,r<A.n->(xN A H H 0 h0).vd r=Yb A (Q7 A n) r)/\(∀c,c<H->(xN A H H 0 h0).st c=wR A (Q7 A n) c/\(xN A H H 0 h0).av c=lN A H c):=by
 have h:=GI A H hn H 0 h0 (by omega) ((zHA A).same fun x=>⟨False.elim,fun hx=>by omega⟩);generalize xN A H H 0 h0=s at *;constructor
 ·intro r hr
  have h1:=hl _ (hh r hr);rw[(h.vd r hr).1 ⟨hh r hr,h1⟩];exact YL A hr fun k hk e=>(Z7 A hk (show A.lev (A.head k)<=A.lev (A.head r) by rw[e];omega) (show A.lev (A.head r)<=n by omega)).symm
 ·intro c hc
  have h1:=hl c hc;rw[(h.st c).1 ⟨hc,h1⟩,(h.av c).1 ⟨hc,h1⟩];constructor
  ·unfold wR
   rw[dU A fun k hk e=>(Z7 A hk (show A.lev (A.head k)<=A.lev c by rw[e];omega) (show A.lev c<=n by omega)).symm]
  ·exact(pF A (A.lev c+1) c H (by omega) (by omega)).2.symm
def jT:Nat->Int
 | 0=>9999
 | k+1=>36*jT k
theorem fT:∀k,9999<=jT k:=by
 intro k
 induction k with
 | zero=>exact lh _
 | succ k ih=>rw[jT];omega
theorem UW(A:pE)(hs:∀r (f:Nat->Int) (B:Int),r<A.n->9999<=B->(∀c,-B<=f c/\f c<=B) -> -(36*B)<=A.sum r f/\A.sum r f<=36*B):∀k c,-(jT k)<=lN A k c/\lN A k c<=jT k:=by
 intro k
 induction k with
 | zero=>intro c;show -(9999:Int)<=0/\(0:Int)<=9999;exact⟨by decide,by decide⟩
 | succ k ih =>
   intro c;have hk:=fT k;rw[lN,D9,jT];generalize hl:xL A (fun r=>A.app r (lO A k)) c=l
   match l,hl with
   | [],_=>exact⟨by show -(36*jT k)<=0;omega,by show (0:Int)<=36*jT k;omega⟩
   | [r],hl =>
     have hr:=(sN A (show r∈xL A (fun r=>A.app r (lO A k)) c by rw[hl];simp)).1;exact hs r (lN A k) (jT k) hr hk ih
   | _::_::_,_=>exact⟨by show -(36*jT k)<=0;omega,by show (0:Int)<=36*jT k;omega⟩
def dM(ls:List zE):List zE:=ls.filter fun x=>decide (x.kind=3)
theorem XA(ls:List zE):yW ls=(dM ls).map zE.name:=by
 have key:∀(ls:List zE) acc,jD ls acc=acc++(ls.filter fun x=>decide (x.kind=3)).map zE.name:=by
  intro ls
  induction ls with
  | nil=>intro acc;simp[jD]
  | cons x r ih=>intro acc;rw[jD,ih];by_cases h:x.kind=3 <;> simp[h]
 unfold yW dM;rw[key];simp
theorem sO(ins cs:List Bs)(ls:List zE):uZ ins cs ls=(dM ls).map (qI ins cs):=by
 unfold uZ dM;rw[Gf];simp
theorem By(h:x∈dM ls):x∈ls/\x.kind=3:=by
 have:=mh.1 h;exact⟨this.1,by simpa using this.2⟩
theorem Bz(ls:List zE):(dM ls).length=xT 3 ls:=by
 unfold dM
 induction ls with
 | nil=>rfl
 | cons x r ih=>rw[xT];by_cases h:x.kind=3 <;> simp[h,ih];omega
theorem kq(h:r<(dM ls).length):(dM ls).getD r Yw∈dM ls:=by simp[List.getD,h]
theorem YD(H:Nat)(f:Nat->Bool)(a:Int):kY ((List.range H).map f) a=(decide (0<=a)&&(decide (a<H)&&f a.toNat)):=by
 unfold kY;by_cases h0:0<=a
 ·by_cases h1:a<H
  ·rw[tr h0,tr h1]
   simp only[pw,List.length_range,tr h1,my];simp[List.getD,show a.toNat<H by omega]
  ·rw[tu h1]
   simp only[pw,List.length_range,tu h1,bw]
 ·rw[tu h0];rfl
theorem rC(H:Nat)(f:Nat->Int)(a:Int):qK ((List.range H).map f) a=if 0<=a/\a<H then f a.toNat else 0:=by
 unfold qK;simp only[pw,List.length_range];by_cases h:0<=a/\a<H
 ·rw[tl h,tl h];simp[List.getD,show a.toNat<H by omega]
 ·rw[tb h,tb h]
def zKQ(r:xK)(c:Nat):Prop:=(∃p∈r.sum,p.kind=3/\p.place=(c:Int))\/∃y∈r.guard,y.kind=5/\y.place=(c:Int)
theorem Qk(r:xK)(H:Nat)(inp v v':List Int)(f g:Nat->Bool)(h:∀c,zKQ r c->f c=g c):kB r ⟨inp,(List.range H).map f,v⟩=kB r ⟨inp,(List.range H).map g,v'⟩:=by
 have hT:∀a:Int,(∀c:Nat,a=(c:Int)->zKQ r c)->kY ((List.range H).map f) a=kY ((List.range H).map g) a:=fun a ha=>by
  rw[YD,YD];by_cases h0:0<=a
  ·rw[h a.toNat (ha a.toNat (by omega))]
  ·rw[tu h0];rfl
 have h1:jH ⟨inp,(List.range H).map f,v⟩ r.sum=jH ⟨inp,(List.range H).map g,v'⟩ r.sum:=by
  unfold jH
  exact JE fun p hp=>by
   by_cases k:p.kind=3
   ·rw[hT p.place fun c e=>.inl ⟨p,hp,k,e⟩]
   ·rw[tu k];rfl
 have h2:∀(N:List kE) hs,(∀y∈N,y∈r.guard)->dB ⟨inp,(List.range H).map f,v⟩ N hs=dB ⟨inp,(List.range H).map g,v'⟩ N hs:=by
  intro N
  induction N with
  | nil=>intro hs _;rfl
  | cons y t ih =>
    intro hs hy;rw[dB,dB]
    have e:KP y ⟨inp,(List.range H).map f,v⟩ hs=KP y ⟨inp,(List.range H).map g,v'⟩ hs:=by
     unfold KP;by_cases k:y.kind=5
     ·simp only[k]
      exact hT y.place fun c e=>.inr ⟨y,hy y (by simp),k,e⟩
     ·simp only[k,if_false];rfl
    rw[e];exact ih _ fun z hz=>hy z (by simp[hz])
 unfold kB;rw[h1,h2 r.guard [] fun y hy=>hy]
theorem Xb(r:xK)(H:Nat)(inp:List Int)(v v':List Bool)(f g:Nat->Int)(h:∀c,zKQ r c->f c=g c):iU ⟨inp,v,(List.range H).map f⟩ r.sum=iU ⟨inp,v',(List.range H).map g⟩ r.sum:=by
 have key:∀(l:List lX) n,(∀p∈l,p∈r.sum)->bJ ⟨inp,v,(List.range H).map f⟩ l n=bJ ⟨inp,v',(List.range H).map g⟩ l n:=by
  intro l
  induction l with
  | nil=>intro n _;rfl
  | cons p t ih =>
    intro n hp;rw[bJ,bJ]
    have e:lQ ⟨inp,v,(List.range H).map f⟩ p=lQ ⟨inp,v',(List.range H).map g⟩ p:=by
     unfold lQ;by_cases k:p.kind=3
     ·simp only[k]
      rw[rC,rC];by_cases h0:0<=p.place/\p.place<H
      ·rw[tl h0,tl h0,h p.place.toNat (.inl ⟨p,hp p (by simp),k,by omega⟩)]
      ·rw[tb h0,tb h0]
     ·simp only[k,if_false]
    rw[e];exact ih _ fun z hz=>hp z (by simp[hz])
 exact key r.sum 0 fun p hp=>hp
theorem Vq(h:xX ls)(hx:x∈ls)(hk:x.kind=3){a:Nat}(ha:a<(yW ls).length)(e:x.name=(yW ls).getD a []):(dM ls).getD a Yw=x:=by
 have hx2:x∈dM ls:=mh.2 ⟨hx,by simpa using hk⟩;obtain⟨b,hb,rfl⟩:=cw hx2;have hl:(yW ls).length=(dM ls).length:=by rw[XA];simp
 have e2:(yW ls).getD b []=(yW ls).getD a []:=by
  rw[<-e,XA];simp[List.getD,hb]
 have:=BQ h.labs (show b<_ by omega) ha e2;subst this;simp[List.getD,hb]
theorem CU(h:xX ls){i k:Nat}(hg:gA (zW (uE (yW ls) ls gZ)) i k=true)(hi:i<8)(hk:k<8):((dM ls).getD i Yw).conc=((dM ls).getD k Yw).conc:=by
 have hl:(uE (yW ls) ls gZ).length=64:=by rw[pX];exact xG
 refine(lI hl i k).1 ⟨hi,hk,hg⟩ (fun a b=>((dM ls).getD a Yw).conc=((dM ls).getD b Yw).conc) (fun a b hab=>?_) (fun _ _ _ h1 h2=>h1.trans h2);obtain⟨ha8,hb8,hgg⟩:=hab;rw[wG _ _ ha8 hb8 _ xG,Ct,lu]at hgg;obtain⟨x,hx,hxo⟩:=ma.1 hgg;rw[zL5 h.labs x,pe,pe,po,po]at hxo;obtain⟨ha,hb,hov⟩:=hxo;unfold ovX at hov;simp only[pe,po]at hov;obtain⟨hk4,hn1,hn2⟩:=hov;obtain⟨j,hj,rfl⟩:=fK hx;have he:=h.err j hj;unfold jQ at he;rw[tb (by omega),tb (by omega),tb (by omega),tl hk4]at he;unfold bK at he;by_cases h1:xV ls (lA ls j).name=ls.length\/xV ls (lA ls j).lower=ls.length
 ·rw[tl h1]at he;exact absurd he (by decide)
 ·rw[tb h1]at he
  have zLL:xV ls (lA ls j).name<ls.length/\xV ls (lA ls j).lower<ls.length:=by
   have a1:=Zf ls (lA ls j).name;have a2:=Zf ls (lA ls j).lower;omega
  have hc:(lA ls (xV ls (lA ls j).name)).conc=(lA ls (xV ls (lA ls j).lower)).conc:=by
   rcases Classical.em ((lA ls j).name=(lA ls j).lower\/(lA ls (xV ls (lA ls j).name)).conc≠(lA ls (xV ls (lA ls j).lower)).conc) with h2|h2
   ·rw[tl h2]at he;exact absurd he (by decide)
   ·exact Classical.not_not.1 fun hn=>h2 (.inr hn)
  have hit:∀nm,xV ls nm<ls.length->lA ls (xV ls nm)∈ls/\(lA ls (xV ls nm)).kind=3/\(lA ls (xV ls nm)).name=nm:=fun nm zLL=>by
   have:=zr (iP 3 nm) ls 0 (by unfold xV at zLL;omega);rw[Nat.sub_zero]at this;have h3:iP 3 nm (lA ls (xV ls nm))=true:=this;unfold iP at h3;simp only[pe,po]at h3;exact⟨by unfold lA;simp[List.getD,zLL],h3.1,h3.2⟩
  obtain⟨p1,p2,p3⟩:=hit _ zLL.1;obtain⟨q1,q2,q3⟩:=hit _ zLL.2;rw[Vq h p1 p2 ha (by rw[p3];exact hn1),Vq h q1 q2 hb (by rw[q3];exact hn2)];exact hc
def Ym(ls:List zE)(r:Nat):Nat:=(zH (zJ ls) ((dM ls).getD r Yw).conc).toNat
theorem aC(h:r<(dM ls).length):zH (zJ ls) ((dM ls).getD r Yw).conc=(Ym ls r:Int)/\Ym ls r<(zJ ls).length:=by
 have hm:=By (kq h);have h1:0<=zH (zJ ls) ((dM ls).getD r Yw).conc:=(gM _ _).2 ((sY _ _).2 (ma.2 ⟨_,hm.1,by unfold DO;rw[tr hm.2];simp⟩));have h2:=kX (zJ ls) ((dM ls).getD r Yw).conc;unfold Ym;omega
def rF(ls:List zE)(r:Nat):xK:=qI (xR ls) (zJ ls) ((dM ls).getD r Yw)
theorem BS(h:xX ls)(hr:r<(dM ls).length)(hn:zKQ (rF ls r) c):c<(zJ ls).length/\dP (qN (zJ ls) ls gZ) c<dP (qN (zJ ls) ls gZ) (Ym ls r):=by
 have h8:=h.heads;obtain⟨hm,hk⟩:=By (kq hr);obtain⟨hf,zLL⟩:=aC hr;have hl:(qN (zJ ls) ls gZ).length=64:=by rw[fV];exact xG
 have hc:(((dM ls).getD r Yw).sum.any (fun y=>decide (zH (zJ ls) y.name=(c:Int))) || ((dM ls).getD r Yw).nd.any (fun y=>decide (y.kind=5)&&decide (zH (zJ ls) y.name=(c:Int))))=true/\c<(zJ ls).length:=by
  rcases hn with ⟨p,hp,k,e⟩|⟨y,hy,k,e⟩
  ·obtain⟨q,hq,rfl⟩:=p7.1 hp
   have hq3:Ke (xR ls) q=3:=k;have hqp:vh (xR ls) (zJ ls) q=(c:Int):=e;unfold Ke at hq3;unfold vh at hqp;by_cases h0:q.name=[]
   ·rw[tl h0]at hq3;exact absurd hq3 (by decide)
   ·rw[tb h0]at hq3 hqp
    by_cases h1:zH (xR ls) q.name<0
    ·rw[tl h1]at hqp
     exact⟨by rw[bg];exact .inl (ma.2 ⟨q,hq,by simpa using hqp⟩),by have:=kX (zJ ls) q.name;omega⟩
    ·rw[tb h1]at hq3;exact absurd hq3 (by decide)
  ·obtain⟨q,hq,rfl⟩:=p7.1 hy
   have hq5:q.kind=5:=k;have hqp:UP (xR ls) (zJ ls) q=(c:Int):=e;unfold UP at hqp;rw[tl hq5]at hqp;exact⟨by rw[bg];exact .inr (ma.2 ⟨q,hq,by simp[hq5,hqp]⟩),by have:=kX (zJ ls) q.name;omega⟩
 refine⟨hc.2,zA7 hl h.nam (by omega) (by omega) ?_⟩;rw[Xx _ _ (by omega) (by omega) _ xG,Ct,lu];exact ma.2 ⟨_,hm,by unfold zGA;rw[hk,hf,hc.1];simp⟩
def vS(ls:List zE)(inp:List Int)(h:xX ls):pE where
 n:=(dM ls).length
 head:=Ym ls
 abv:=gA (zW (uE (yW ls) ls gZ))
 app:=fun r f=>kB (rF ls r) ⟨inp,(List.range (zJ ls).length).map f,[]⟩
 sum:=fun r f=>iU ⟨inp,[],(List.range (zJ ls).length).map f⟩ (rF ls r).sum
 lev:=dP (qN (zJ ls) ls gZ)
 nm:=fun r=>zKQ (rF ls r)
 happ:=fun r f g _ hfg=>Qk (rF ls r) _ inp [] [] f g hfg
 hsum:=fun r f g _ hfg=>Xb (rF ls r) _ inp [] [] f g hfg
 hlev:=fun r c hr hn=>(BS h hr hn).2
 habv:=fun k r hk hr hg=>by
  have h8:(dM ls).length<=8:=by rw[Bz];exact h.rules
  unfold Ym;rw[CU h hg (by omega) (by omega)]
theorem JG(ls:List zE)(inp:List Int)(h:xX ls)(a b:Nat):(vS ls inp h).abv a b=gA (zW (uE (yW ls) ls gZ)) a b:=by simp only[vS]
def bU(pl:Nat->Int)(j:Nat):Nat->Nat
 | 0=>0
 | m+1=>bU pl j m+(if pl m=(j:Int) then 1 else 0)
theorem Us(pl:Nat->Int)(j:Nat){m m':Nat}(h:m<=m'):bU pl j m<=bU pl j m':=by
 induction m' with
 | zero=>obtain rfl:m=0:=by omega
         exact j1 _
 | succ k ih =>
   rcases me m (k+1) with h1|h1
   ·rw[bU];have:=ih (by omega);omega
   ·obtain rfl:m=k+1:=by omega
    exact j1 _
structure JJ where
 name:Bs
 isNum:Bool
 value:Int
def fJ(f:JJ):Value:=.agg #[.string ⟨f.name.toArray⟩,.bool f.isNum,.int .i64 f.value]
def oO(t:PT):Bool:=decide (t.k=2)&&(decide (t.s=[121,101,115]) || decide (t.s=[110,111]))
def qY(n v:PT):JJ:=if v.k=3 then ⟨n.s,true,v.v⟩ else ⟨n.s,false,if v.s=[121,101,115] then 1 else 0⟩
def bM(f:JJ)(x:zO):Bool:=if x.isFlag then !f.isNum else f.isNum&&(decide (x.low<=f.value)&&decide (f.value<=x.high))
theorem Jp(w:World)(t:PT)(s:Bs):Calls Tryz.prog 130 #[Q6 t,.string ⟨s.toArray⟩] w fun e w'=>e=.returned (.bool (decide (t.k=4)&&decide (t.s=s)))/\Below w.heap.size w w':=by
 obtain⟨k,x,v,p⟩:=t;simp only[Q6];by_cases k1:k=4
 ·by_cases k2:x=s
  ·have HA:Hid ((decide (k=4)&&decide (x=s))=true):=by unfold Hid;rw[tr k1,tr k2];rfl
   have b2:(x==s)=true:=by simpa using k2
   generalize (decide (k=4)&&decide (x=s))=a at *;clear k2
   go_enter Tryz.func130,Tryz.ntmps130
   go_wp2_with fail
   go_ret
   exact⟨zF HA.out.symm,fw (j1 _) _⟩
  ·have HA:Hid ((decide (k=4)&&decide (x=s))=false):=by unfold Hid;rw[tu k2];simp
   have b2:(x==s)=false:=by simpa using k2
   generalize (decide (k=4)&&decide (x=s))=a at *;clear k2
   go_enter Tryz.func130,Tryz.ntmps130
   go_wp2_with fail
   go_ret
   exact⟨zF HA.out.symm,fw (j1 _) _⟩
 ·have HA:Hid ((decide (k=4)&&decide (x=s))=false):=by unfold Hid;rw[tu k1];rfl
  have b1:(k==4)=false:=by simpa using k1
  generalize (decide (k=4)&&decide (x=s))=a at *;clear k1
  go_enter Tryz.func130,Tryz.ntmps130
  go_wp2_with fail
  go_ret
  exact⟨zF HA.out.symm,fw (j1 _) _⟩
theorem VP(w:World)(t:PT):Calls Tryz.prog 131 #[Q6 t] w fun e w'=>e=.returned (.bool (oO t))/\Below w.heap.size w w':=by
 have HA:Hid (oO t=(decide (t.k=2)&&(decide (t.s=[121,101,115]) || decide (t.s=[110,111])))):=rfl;generalize oO t=ans at *;obtain⟨k,x,v,p⟩:=t;simp only[Q6]at *;by_cases k1:k=2
 ·by_cases k2:x=[121,101,115]
  ·rw[tr k1,tr k2]at HA
   have b2:(x==[121,101,115])=true:=by simpa using k2
   clear k2
   go_enter Tryz.func131,Tryz.ntmps131
   go_wp2_with fail
   go_ret
   exact⟨zF HA.out.symm,fw (j1 _) _⟩
  ·rw[tr k1,tu k2,my,lu]at HA
   have b2:(x==[121,101,115])=false:=by simpa using k2
   have hd:decide (x=[110,111])=(x==[110,111]):=by rw[ct];simp
   rw[hd]at HA;clear k2 hd
   go_enter Tryz.func131,Tryz.ntmps131
   go_wp2_with fail
   go_ret
   exact⟨zF HA.out.symm,fw (j1 _) _⟩
 ·rw[tu k1,bw]at HA
  have b1:(k==2)=false:=by simpa using k1
  clear k1
  go_enter Tryz.func131,Tryz.ntmps131
  go_wp2_with fail
  go_ret
  exact⟨zF HA.out.symm,fw (j1 _) _⟩
theorem zJQ(w:World)(f:JJ)(x:zO):Calls Tryz.prog 87 #[fJ f,Yl x] w fun e w'=>e=.returned (.bool (bM f x))/\Below w.heap.size w w':=by
 have HA:Hid (bM f x=if x.isFlag then !f.isNum else f.isNum&&(decide (x.low<=f.value)&&decide (f.value<=x.high))):=rfl;have HB0:=zA (show ∀o1 o2,Below w.heap.size w ((w.alloc o1).alloc o2) from fun o1 o2=>(fw (j1 _) _).alloc (by simp) _);generalize bM f x=ans at *;obtain⟨fn,fi,fv⟩:=f;obtain⟨xn,xf,xl,xh⟩:=x;simp only[fJ,Yl]at *;cases xf
 ·simp only[Bool.false_eq_true,if_false]at HA
  cases fi
  ·simp only[bw]at HA
   go_enter Tryz.func87,Tryz.ntmps87
   go_wp2_with fail
   go_ret
   exact⟨zF HA.out.symm,HB0.out _ _⟩
  ·simp only[my]at HA
   by_cases k1:xl<=fv
   ·rw[tr k1,my]at HA
    go_enter Tryz.func87,Tryz.ntmps87
    go_wp2_with fail
    go_ret
    exact⟨zF HA.out.symm,HB0.out _ _⟩
   ·rw[tu k1,bw]at HA
    have k2:decide (xl<=fv)=false:=tu k1
    go_enter Tryz.func87,Tryz.ntmps87
    go_wp2_with fail
    go_ret
    exact⟨zF HA.out.symm,HB0.out _ _⟩
 ·simp only[dw]at HA
  go_enter Tryz.func87,Tryz.ntmps87
  go_wp2_with fail
  go_ret
  exact⟨zF HA.out.symm,HB0.out _ _⟩
theorem Kx:(Tryz.prog.info? 200).map (·.size)=some 3:=by kernel_rfl
theorem zBE(w:World)(n v:PT):Calls Tryz.prog 85 #[Q6 n,Q6 v] w fun e w'=>e=.returned (fJ (qY n v))/\Below w.heap.size w w':=by
 have HA:Hid (qY n v=if v.k=3 then ⟨n.s,true,v.v⟩ else ⟨n.s,false,if v.s=[121,101,115] then 1 else 0⟩):=rfl;generalize qY n v=ans at *;obtain⟨nk,ns,nv,np⟩:=n;obtain⟨vk,vs,vv,vp⟩:=v;simp only[Q6]at *;by_cases k1:vk=3
 ·rw[tl k1]at HA
  subst k1
  go_enter Tryz.func85,Tryz.ntmps85
  go_wp2_with fail
  refine pd (v:=fJ ⟨ns,true,vv⟩) (results_cell_row Tryz.results85 _ _ (w.heap.size+1+1) 200 #[.string ⟨ns.toArray⟩,.bool true,.int .i64 vv] (0,0) _ rfl (by repeat (with_reducible first|(refine yT _ _ _ ?_;simp;done)|refine zT ?_)) Tryz.underlying200 rfl Kx) rfl ⟨by rw[HA.out],(((fw (j1 _) _).alloc (by simp) _).alloc (by simp;omega) _)⟩
 ·rw[tb k1]at HA
  have b1:(vk==3)=false:=by simpa using k1
  clear k1;by_cases k2:vs=[121,101,115]
  ·rw[tl k2]at HA
   have b2:(vs==[121,101,115])=true:=by simpa using k2
   clear k2
   go_enter Tryz.func85,Tryz.ntmps85
   go_wp2_with fail
   refine pd (v:=fJ ⟨ns,false,1⟩) (results_cell_row Tryz.results85 _ _ (w.heap.size+1+1) 200 #[.string ⟨ns.toArray⟩,.bool false,.int .i64 1] (0,0) _ rfl (by repeat (with_reducible first|(refine yT _ _ _ ?_;simp;done)|refine zT ?_)) Tryz.underlying200 rfl Kx) rfl ⟨by rw[HA.out],((((fw (j1 _) _).alloc (by simp) _).alloc (by simp;omega) _).alloc (by simp;omega) _)⟩
  ·rw[tb k2]at HA
   have b2:(vs==[121,101,115])=false:=by simpa using k2
   clear k2
   go_enter Tryz.func85,Tryz.ntmps85
   go_wp2_with fail
   refine pd (v:=fJ ⟨ns,false,0⟩) (results_cell_row Tryz.results85 _ _ (w.heap.size+1+1) 200 #[.string ⟨ns.toArray⟩,.bool false,.int .i64 0] (0,0) _ rfl (by repeat (with_reducible first|(refine yT _ _ _ ?_;simp;done)|refine zT ?_)) Tryz.underlying200 rfl Kx) rfl ⟨by rw[HA.out],((((fw (j1 _) _).alloc (by simp) _).alloc (by simp;omega) _).alloc (by simp;omega) _)⟩
def U6(t:PT)(i:Nat):Bool :=
 if i%4=0 then decide (t.k=2) else if i%4=1 then decide (t.k=4)&&decide (t.s=[61])
 else if i%4=2 then decide (t.k=3) || oO t else decide (t.k=4)&&decide (t.s=[59])
def nZ(P:List PT):Nat->Nat->Bool
 | 0,_=>false
 | n+1,i=>if i%4=0/\(yL P i).k=0 then true else U6 (yL P i) i&&nZ P n (i+1)
def dE(P:List PT):Bool:=nZ P P.length 0
def tP(P:List PT)(I:List zO):Nat->Nat->List Int × List Bool->Option (List Int × List Bool)
 | 0,_,st=>some st
 | n+1,i,st =>
   if i*4+4<P.length then
    (if zH (I.map zO.name) (qY (yL P (i*4)) (yL P (i*4+2))).name<0 then none
     else if st.2.getD (zH (I.map zO.name) (qY (yL P (i*4)) (yL P (i*4+2))).name).toNat false=true then none
     else if bM (qY (yL P (i*4)) (yL P (i*4+2))) (I.getD (zH (I.map zO.name) (qY (yL P (i*4)) (yL P (i*4+2))).name).toNat wK)=false then none
     else tP P I n (i+1) (st.1.set (zH (I.map zO.name) (qY (yL P (i*4)) (yL P (i*4+2))).name).toNat (qY (yL P (i*4)) (yL P (i*4+2))).value,st.2.set (zH (I.map zO.name) (qY (yL P (i*4)) (yL P (i*4+2))).name).toNat true))
   else some st
def yU(I:List zO)(f:Bs):List Int × Int :=
 if 300<f.length then ([],1)
 else if dE (lY f)=false then ([],2)
 else match tP (lY f) I (lY f).length 0 (List.replicate I.length 0,List.replicate I.length false) with
  | none=>([],10)
  | some st=>if st.2.all id then (st.1,0) else ([],10)
def QI(f:Bs)(i:Nat):JJ:=qY (yL (lY f) (i*4)) (yL (lY f) (i*4+2))
def jU(I:List zO)(f:Bs)(i:Nat):Int:=zH (I.map zO.name) (QI f i).name
def zB8(I:List zO)(f:Bs)(i:Nat):Prop:=bM (QI f i) (I.getD (jU I f i).toNat wK)=true
theorem Vi{α:Type}(l:List α)(i j:Nat)(x d:α)(hi:i<l.length):(l.set i x).getD j d=if j=i then x else l.getD j d:=by
 unfold List.getD;rw[List.getElem?_set];by_cases h:i=j
 ·subst h;simp[hi]
 ·rw[tb h,tb (fun e=>h e.symm)]
structure K9(I:List zO)(f:Bs)(i:Nat)(st:List Int × List Bool):Prop where
 l1:st.1.length=I.length
 l2:st.2.length=I.length
 giv:∀j,j<I.length->(st.2.getD j false=true ↔ bU (jU I f) j i=1)/\bU (jU I f) j i<=1
 val:∀(k j:Nat),k<i->jU I f k=(j:Int)->st.1.getD j 0=(QI f k).value
 ok:∀k,k<i->0<=jU I f k/\zB8 I f k
theorem zIL(I:List zO)(f:Bs)(i:Nat):jU I f i<I.length:=by have:=kX (I.map zO.name) (QI f i).name;unfold jU;simpa using this.2
def Fz(I:List zO)(f:Bs)(m:Nat):Prop:=(∀k,k<m->0<=jU I f k/\zB8 I f k)/\∀j,j<I.length->bU (jU I f) j m=1
theorem kw(I:List zO)(f:Bs)(m:Nat)(hm:(vP f 0).length=4*m):∀n i st,m+1<=n+i->i<=m->K9 I f i st ->
 (∃st',tP (lY f) I n i st=some st'/\K9 I f m st')\/(tP (lY f) I n i st=none/\¬Fz I f m):=by
 have hl:=lK f;intro n
 induction n with
 | zero=>intro i st h1 h2;omega
 | succ n ih =>
   intro i st h1 h2 zM7;rw[tP];by_cases zLL:i<m
   ·rw[tl (by omega)]
    have hpl:=zIL I f i;by_cases k1:jU I f i<0
    ·refine .inr ⟨tl k1,fun hh=>?_⟩
     have:=(hh.1 i zLL).1;omega
    ·by_cases k2:st.2.getD (jU I f i).toNat false=true
     ·refine .inr ⟨(tb k1).trans (tl k2),fun hh=>?_⟩
      have h3:=((zM7.giv (jU I f i).toNat (by omega)).1).1 k2;have h4:=hh.2 (jU I f i).toNat (by omega);have h5:bU (jU I f) (jU I f i).toNat (i+1)<=bU (jU I f) (jU I f i).toNat m:=Us _ _ (by omega);rw[bU,tl (by omega)]at h5;omega
     ·by_cases k3:bM (QI f i) (I.getD (jU I f i).toNat wK)=false
      ·refine .inr ⟨(tb k1).trans ((tb k2).trans (tl k3)),fun hh=>?_⟩
       have:=(hh.1 i zLL).2;unfold zB8 at this;rw[k3]at this;cases this
      ·have hc0:bU (jU I f) (jU I f i).toNat i=0:=by
        have a:=zM7.giv (jU I f i).toNat (by omega);have b:¬bU (jU I f) (jU I f i).toNat i=1:=fun e=>k2 (a.1.2 e);have:=a.2;omega
       have hnext:K9 I f (i+1) (st.1.set (jU I f i).toNat (QI f i).value,st.2.set (jU I f i).toNat true):=by
        refine⟨by simp[zM7.l1],by simp[zM7.l2],fun j hj=>?_,fun k j hk hkj=>?_,fun k hk=>?_⟩
        ·have h9:=zM7.giv j hj
         simp only;rw[Vi _ _ _ _ _ (by rw[zM7.l2];omega),bU];by_cases e:j=(jU I f i).toNat
         ·rw[tl e,tl (by omega),e,hc0];simp
         ·rw[tb e,tb (by omega)];exact h9
        ·simp only
         rw[Vi _ _ _ _ _ (by rw[zM7.l1];omega)];rcases me k i with h7|h7
         ·by_cases e:j=(jU I f i).toNat
          ·exfalso
           have:1<=bU (jU I f) j i:=by
            have h8:bU (jU I f) j (k+1)<=bU (jU I f) j i:=Us _ _ (by omega);rw[bU,tl hkj]at h8;omega
           rw[e]at this;omega
          ·rw[tb e];exact zM7.val k j h7 hkj
         ·obtain rfl:k=i:=by omega
          rw[tl (by omega)]
        ·rcases me k i with h7|h7
         ·exact zM7.ok k h7
         ·obtain rfl:k=i:=by omega
          exact⟨by omega,by unfold zB8;cases hx:bM (QI f k) (I.getD (jU I f k).toNat wK) with|true=>rfl|false=>exact absurd hx k3⟩
       have:=ih (i+1) _ (by omega) (by omega) hnext;rcases this with ⟨st',e1,e2⟩|⟨e1,e2⟩
       ·exact .inl ⟨st',(tb k1).trans ((tb k2).trans ((tb k3).trans e1)),e2⟩
       ·exact .inr ⟨(tb k1).trans ((tb k2).trans ((tb k3).trans e1)),e2⟩
   ·obtain rfl:i=m:=by omega
    rw[tb (by omega)];exact .inl ⟨st,rfl,zM7⟩
theorem zK0(l:List Bool):l.all id=true ↔ ∀j,j<l.length->l.getD j false=true:=by
 rw[List.all_eq_true];constructor
 ·intro h j hj;have:=h (l.getD j false) (by simp[List.getD,hj]);simpa using this
 ·intro h x hx
  obtain⟨j,hj,rfl⟩:=cw hx;have:=h j hj;simpa[List.getD,hj] using this
theorem ky(I:List zO)(f:Bs)(m:Nat)(hm:(vP f 0).length=4*m) :
 (Fz I f m->∃L,(match tP (lY f) I (lY f).length 0 (List.replicate I.length 0,List.replicate I.length false) with|none=>(([],10):List Int × Int)|some st=>if st.2.all id then (st.1,0) else ([],10))=(L,0)/\L.length=I.length/\∀(k j:Nat),k<m->jU I f k=(j:Int)->L.getD j 0=(QI f k).value) /\
 (¬Fz I f m->(match tP (lY f) I (lY f).length 0 (List.replicate I.length 0,List.replicate I.length false) with|none=>(([],10):List Int × Int)|some st=>if st.2.all id then (st.1,0) else ([],10))=([],10)):=by
 have hl:=lK f
 have h0:K9 I f 0 (List.replicate I.length 0,List.replicate I.length false):=by
  refine⟨by simp,by simp,fun j hj=>?_,fun k j hk=>by omega,fun k hk=>by omega⟩;simp[bU,List.getD,hj]
 rcases kw I f m hm (lY f).length 0 _ (by omega) (tx _) h0 with ⟨st,e1,e2⟩|⟨e1,e2⟩
 ·rw[e1]
  simp only
  have zM6:st.2.all id=true ↔ ∀j,j<I.length->bU (jU I f) j m=1:=by
   rw[zK0,e2.l2];exact⟨fun h j hj=>(e2.giv j hj).1.1 (h j hj),fun h j hj=>(e2.giv j hj).1.2 (h j hj)⟩
  constructor
  ·intro hg
   rw[tl (zM6.2 hg.2)];exact⟨st.1,rfl,e2.l1,e2.val⟩
  ·intro hg
   rw[tb (fun h=>hg ⟨e2.ok,zM6.1 h⟩)]
 ·rw[e1]
  exact⟨fun hg=>absurd hg e2,fun _=>rfl⟩
theorem XF(h:xX ls):(xR ls).Nodup:=by
 have key:∀n,n<=ls.length->(xR (ls.take n)).Nodup:=by
  intro n
  induction n with
  | zero=>intro _;simp[xR,zV,cX]
  | succ n ih =>
    intro hn;have ih:=ih (by omega);rw[gE,bN ls n (by omega),cq,bf];rw[gE]at ih;by_cases hk:(lA ls n).kind=1\/(lA ls n).kind=2
    ·rw[List.filter_cons_of_pos (by simpa using hk),f8,List.nodup_append]
     refine⟨ih,by simp,fun a ha b hb=>?_⟩;simp only[dc,List.map_nil,pu]at hb;subst hb;intro e;subst e;have hm:=(Xz (ls.take n) (lA ls n).name).1 (by rw[gE];exact ha);have he:=h.err n (by omega)
     have zLT:bE ls n=0:=by
      unfold jQ at he;rcases hk with k|k
      ·rw[tl k]at he
       unfold rE at he;by_cases h0:bE ls n=0
       ·exact h0
       ·rw[tb h0]at he;exact he
      ·rw[tb (by omega),tl k]at he;exact he
     unfold bE at zLT;rcases hm with hm|hm
     ·rw[hm,fq,tl rfl]at zLT;exact absurd zLT (by decide)
     ·rw[hm,fq,Bool.or_true,tl rfl]at zLT;exact absurd zLT (by decide)
    ·rw[List.filter_cons_of_neg (by simpa using hk),f8];simpa using ih
 have:=key ls.length (j1 _)
 rwa [ce]at this
theorem XP{α β:Type}(f:α->β)(l:List α)(j:Nat)(d:α)(d':β)(h:j<l.length):(l.map f).getD j d'=f (l.getD j d):=by simp[List.getD,h]
def vm(ls:List zE):List zE:=ls.filter fun x=>decide (x.kind=1\/x.kind=2)
theorem Kq(h:x∈vm ls):x.kind=1\/x.kind=2:=cb (mh.1 h).2
theorem XJ(ls:List zE):xR ls=(vm ls).map zE.name:=gE ls
theorem XG(ls:List zE):zV ls=(vm ls).map jM:=by unfold zV;rw[wX,da];rfl
end Go.Proofs.YtnbpdffdnphbeabGreatDoor
