import Derived.Test.YtnbpdffdnphbeabGreatDoorMState
set_option maxHeartbeats 2000000
namespace Go.Proofs.YtnbpdffdnphbeabGreatDoor
open Go.RowKit
variable{ls:List zE}{r c:Nat}{g f:Nat->Bool}{x:zE}
def iS(ins cs:List Bs)(s:xA):XU:=⟨fun nm=>kP s.has (zI cs nm),fun nm=>kF s.inputs (zI ins nm)⟩
theorem zH7(ins cs:List Bs)(s:xA)(hs:List Bool)(x:zT):Kt (pZ ins cs x) s hs=J5 (iS ins cs s) hs x:=by
 unfold Kt J5 pZ;simp only;by_cases h1:x.kind=1
 ·rw[tm h1,tm h1]
 rw[tb h1,tb h1];by_cases h2:x.kind=2
 ·rw[tm h2,tm h2]
 rw[tb h2,tb h2];by_cases h3:x.kind=3
 ·rw[tm h3,tm h3]
 rw[tb h3,tb h3];by_cases h4:x.kind=4
 ·rw[tm h4,tm h4]
 rw[tb h4,tb h4];by_cases h5:x.kind=5
 ·rw[tm h5,tm h5];unfold Us iS;rw[tm h5]
 rw[tb h5,tb h5];by_cases h6:x.kind=6
 ·rw[tm h6,tm h6];unfold Us iS;rw[tb h5,tm (.inl h6)]
 rw[tb h6,tb h6];by_cases h7:x.kind=7
 ·rw[tm h7,tm h7]
  have e1:Us ins cs x=zI ins x.name:=by unfold Us;rw[tb h5,tm (.inr h7)]
  have e2:(if decide (x.other≠[])=true then kF s.inputs (zFJ ins x) else x.num)=(if x.other=[] then x.num else (iS ins cs s).inp x.other):=by
   by_cases ho:x.other=[]
   ·simp[ho]
   ·simp only[ho,ne_eq,not_false_eq_true,decide_true,f9,if_false];unfold zFJ iS;rw[tb ho]
  unfold Qh zAA;simp only;rw[e1,e2,show (iS ins cs s).inp x.name=kF s.inputs (zI ins x.name) from rfl];generalize kF s.inputs (zI ins x.name)=p;generalize (if x.other=[] then x.num else (iS ins cs s).inp x.other)=q;by_cases k1:p<q
  ·rw[tm k1,tm k1];rfl
  ·rw[tb k1,tb k1]
   by_cases k2:p=q
   ·rw[tb (by omega),tm k2];rfl
   ·rw[tm (by omega),tb k2];rfl
 ·rw[tb h7,tb h7]
theorem zHO(ins cs:List Bs)(s:xA)(N:List zT):∀hs,cU s (N.map (pZ ins cs)) hs=Ku (iS ins cs s) N hs:=by
 induction N with
 | nil=>intro hs;rfl
 | cons x r ih=>intro hs;rw[dq,cU,Ku,zH7,ih]
theorem jS(l:List Bs)(nm:Bs) : -1<=zI l nm/\zI l nm<l.length:=by
 have:=oZ nm l 0;unfold zI;omega
structure RuOk(ins cs:List Bs)(x:zE):Prop where
 nodes:∀y∈x.nd,(y.kind=5->zI ins y.name<0/\0<=zI cs y.name)/\(y.kind=6->0<=zI ins y.name)/\(y.kind=7->0<=zI ins y.name/\(y.other≠[]->0<=zI ins y.other))
 parts:∀p∈x.sum,p.name=[]\/0<=zI ins p.name\/0<=zI cs p.name
theorem all_map{α β:Type}(f:α->β)(p:β->Bool)(l:List α):(l.map f).all p=l.all fun x=>p (f x):=by
 induction l with
 | nil=>rfl
 | cons x r ih=>rw[dq,fd,fd,ih]
theorem Jh{α:Type}{p q:α->Bool}{l:List α}(h:∀x∈l,p x=q x):l.all p=l.all q:=by
 induction l with
 | nil=>rfl
 | cons x r ih=>rw[fd,fd,h x (by simp),ih fun y hy=>h y (by simp[hy])]
def zF2(w:World)(b o:Nat)(G:List Bool):Prop:=∀k,k<64->w.cell? ⟨b,o+k,none⟩=some (.bool (G.getD k false))
theorem zF2.below{w w':World}{b o:Nat}{G:List Bool}(h:zF2 w b o G)(hb:Below w.heap.size w w'):zF2 w' b o G:=fun k hk=>by
 rw[hb.cell (p:=⟨b,o+k,none⟩) (yF (h k hk))];exact h k hk
def gY(G:List Bool)(a b:Int):Bool:=(decide (0<=a)&&decide (a<8))&&((decide (0<=b)&&decide (b<8))&&gA G a.toNat b.toNat)
theorem zIR(w:World)(g o:Nat)(G:List Bool)(a b:Int)(h:zF2 w g o G) :
 Calls Tryz.prog 140 #[.pointer (some ⟨g,o,none⟩),.int .i64 a,.int .i64 b] w fun e w'=>e=.returned (.bool (gY G a b))/\w'=w:=by
 have HA:Hid (gY G a b=((decide (0<=a)&&decide (a<8))&&((decide (0<=b)&&decide (b<8))&&gA G a.toNat b.toNat))):=rfl;have HP:=zA (fun k w=>bV k w);generalize gY G a b=ans at *;by_cases ka:0<=a/\a<8
 ·by_cases kb:0<=b/\b<8
  ·obtain⟨na,rfl⟩:∃n:Nat,a=(n:Int):=⟨a.toNat,by omega⟩
   obtain⟨nb,rfl⟩:∃n:Nat,b=(n:Int):=⟨b.toNat,by omega⟩;have HA2:Hid (ans=gA G na nb):=by have:=HA.out;rw[tu ka.1,tu ka.2,tu kb.1,tu kb.2]at this;simpa[Hid] using this
   have hc:=h (na*8+nb) (by omega);rw[<-cy]at hc;have HA3:Hid (ans=G.getD (na*8+nb) false):=HA2;have HP1:Hid (∀w:World,Calls Tryz.prog 158 #[.int .i64 (na:Int)] w fun e w'=>e=.returned (.bool true)/\w'=w):=fun w=>by have:=HP.out (na:Int) w;rw[tu ka.1,tu ka.2]at this;exact this
   have HP2:Hid (∀w:World,Calls Tryz.prog 158 #[.int .i64 (nb:Int)] w fun e w'=>e=.returned (.bool true)/\w'=w):=fun w=>by have:=HP.out (nb:Int) w;rw[tu kb.1,tu kb.2]at this;exact this
   have la:na<8:=by omega
   have lb:nb<8:=by omega
   clear HA HA2 HP h ka kb;generalize G.getD (na*8+nb) false=z at *
   go_enter Tryz.func140,Tryz.ntmps140
   go_wp2_with fail
   refine(HP1.out _).mono ?_;rintro e w' ⟨rfl,hw⟩;obtain rfl:=hw.symm;go_wp2_with fail
   refine(HP2.out _).mono ?_;rintro e w' ⟨rfl,hw⟩;obtain rfl:=hw.symm;go_wp2_with fail
   go_ret
   exact⟨zF HA3.out.symm,rfl⟩
  ·have hb:(decide (0<=b)&&decide (b<8))=false:=by
    rcases cp b 0 with h1|h1
    ·rw[tq (by omega)];rfl
    ·rw[tq (show ¬b<8 by omega)];simp
   have HA2:Hid (ans=false):=by have:=HA.out;rw[hb]at this;simpa[Hid] using this
   have HP1:Hid (∀w:World,Calls Tryz.prog 158 #[.int .i64 a] w fun e w'=>e=.returned (.bool true)/\w'=w):=fun w=>by have:=HP.out a w;rw[tu ka.1,tu ka.2]at this;exact this
   have HP2:Hid (∀w:World,Calls Tryz.prog 158 #[.int .i64 b] w fun e w'=>e=.returned (.bool false)/\w'=w):=fun w=>by have:=HP.out b w;rw[hb]at this;exact this
   clear HA HP h hb ka kb
   go_enter Tryz.func140,Tryz.ntmps140
   go_wp2_with fail
   refine(HP1.out _).mono ?_;rintro e w' ⟨rfl,hw⟩;obtain rfl:=hw.symm;go_wp2_with fail
   refine(HP2.out _).mono ?_;rintro e w' ⟨rfl,hw⟩;obtain rfl:=hw.symm;go_wp2_with fail
   go_ret
   exact⟨zF HA2.out.symm,rfl⟩
 ·have ha:(decide (0<=a)&&decide (a<8))=false:=by
   rcases cp a 0 with h1|h1
   ·rw[tq (by omega)];rfl
   ·rw[tq (show ¬a<8 by omega)];simp
  have HA2:Hid (ans=false):=by have:=HA.out;rw[ha]at this;simpa[Hid] using this
  have HP1:Hid (∀w:World,Calls Tryz.prog 158 #[.int .i64 a] w fun e w'=>e=.returned (.bool false)/\w'=w):=fun w=>by have:=HP.out a w;rw[ha]at this;exact this
  clear HA HP h ha ka
  go_enter Tryz.func140,Tryz.ntmps140
  go_wp2_with fail
  refine(HP1.out _).mono ?_;rintro e w' ⟨rfl,hw⟩;obtain rfl:=hw.symm;go_wp2_with fail
  go_ret
  exact⟨zF HA2.out.symm,rfl⟩
theorem fB(w:World)(b o:Nat)(G:List Bool)(x y:Int)(h:zF2 w b (o+3) G) :
 Calls Tryz.prog 94 #[.pointer (some ⟨b,o,none⟩),.int .i64 x,.int .i64 y] w fun e w'=>e=.returned (.bool (gY G x y))/\w'=w:=by
 have HG:=zA (zIR w b (o+3) G x y h);clear h;generalize gY G x y=z at *
 go_enter Tryz.func94,Tryz.ntmps94
 go_wp2_with fail
 refine HG.out.mono ?_;rintro e w' ⟨rfl,hw⟩;obtain rfl:=hw.symm;go_wp2_with fail
 go_ret
 exact⟨rfl,rfl⟩
structure vJ(ls:List zE):Prop where
 many:∀i,i<ls.length->tJ ls i=false
 err:∀i,i<ls.length->lB ls i=0
 nam:qP (qK (zO ls) ls gZ)=false
 ord:qP (uT (xW ls) ls gZ)=false
theorem zFT(h:(kG ls).1=0):vJ ls:=by
 revert h
 unfold kG
 cases hm:fM ls ls.length 0 with
 | some i=>intro h;exact absurd (show (3:Int)=0 from h) (by decide)
 | none =>
   have hmany:=fun i (hi:i<ls.length)=>Bt ls.length 0 hm i (ty _) (by omega);simp only;unfold X6
   cases he:sL ls ls.length 0 with
   | some i =>
     intro h;exfalso
     have h1:lB ls i=0:=h
     have:∀n i j,sL ls n i=some j->lB ls j≠0:=by
      intro n
      induction n with
      | zero=>intro i j h;simp[sL]at h
      | succ n ih=>intro i j h;rw[sL]at h;split at h
                   ·exact ih _ _ h
                   ·rename_i zK8;obtain rfl:=dn h;exact zK8
     exact this _ _ _ he h1
   | none =>
     have herr:=fun i (hi:i<ls.length)=>Gt ls.length 0 he i (ty _) (by omega);simp only;unfold YF;intro h
     cases hr:qP (qK (zO ls) ls gZ) with
     | true=>rw[hr,tm rfl]at h;exact absurd (show (7:Int)=0 from h) (by decide)
     | false =>
       rw[hr,tb (by decide)]at h
       cases hs:qP (uT (xW ls) ls gZ) with
       | true=>rw[hs,tm rfl]at h;exact absurd (show (7:Int)=0 from h) (by decide)
       | false=>exact⟨hmany,herr,hr,hs⟩
theorem vJ.rules(h:vJ ls):xZ 3 ls<=8:=Gi h.many
theorem Xq(ls:List zE):(zO ls).length<=xZ 3 ls:=by have:=(QL ls [] (by simp)).2.2;simpa[zO] using this
theorem vJ.heads(h:vJ ls):(zO ls).length<=8:=p7 (Xq ls) h.rules
theorem QA(ls:List zE)(nm:Bs):nm∈zO ls ↔ mB ls nm=true:=by
 have:=(QL ls [] (by simp)).2.1 nm;unfold zO mB;simpa using this
theorem fU(l:List Bs)(nm:Bs):0<=zI l nm ↔ nm∈l:=by
 have:=fV nm l 0;unfold zI;constructor
 ·intro h;exact Classical.not_not.1 fun hn=>by have:=this.2 hn;omega
 ·intro h;rcases cp (qI nm l 0) 0 with h1|h1
  ·exact absurd h (this.1 h1)
  ·exact h1
theorem YX(ls:List zE)(nm:Bs):nm∈uC ls ↔ (uR ls 1 nm=true\/uR ls 2 nm=true):=by
 rw[oU];simp only[p8,mj,uR,md,Zb,pj,pt];constructor
 ·rintro⟨x,⟨h1,h2|h2⟩,h3⟩
  ·exact .inl ⟨x,h1,h2,h3⟩
  ·exact .inr ⟨x,h1,h2,h3⟩
 ·rintro(⟨x,h1,h2,h3⟩|⟨x,h1,h2,h3⟩)
  ·exact⟨x,⟨h1,.inl h2⟩,h3⟩
  ·exact⟨x,⟨h1,.inr h2⟩,h3⟩
theorem YW(h:x∈ls):∃i,i<ls.length/\lA ls i=x:=by
 obtain⟨i,hi,rfl⟩:=ct h;exact⟨i,hi,by simp[lA,List.getD,hi]⟩
theorem vJ.apart {ls : List zE} (h : vJ ls) {nm : Bs} (h1 : nm ∈ uC ls) : mB ls nm = false := by
  rw [oU] at h1
  obtain ⟨x, hx, rfl⟩ := List.mem_map.1 h1
  obtain ⟨hm, hk⟩ := List.mem_filter.1 hx
  obtain ⟨i, hi, rfl⟩ := YW hm
  have he := h.err i hi
  have zKF : oV ls i = 0 := by
    unfold lB at he
    rcases (of_decide_eq_true hk : (lA ls i).kind = 1 ∨ (lA ls i).kind = 2) with k | k
    · rw [if_pos k] at he
      unfold wX at he
      by_cases h0 : oV ls i = 0
      · exact h0
      · rw [if_neg h0] at he; exact he
    · rw [if_neg (by omega), if_pos k] at he; exact he
  unfold oV at zKF
  cases hc : mB ls (lA ls i).name with
  | false => rfl
  | true => rw [hc, Bool.or_true, Bool.or_true, if_pos rfl] at zKF; exact absurd zKF (by decide)
theorem vJ.ruOk(h:vJ ls)(hx:x∈ls)(hk:x.kind=3):RuOk (uC ls) (zO ls) x:=by
 obtain⟨i,hi,rfl⟩:=YW hx;have he:=h.err i hi;unfold lB at he;rw[tb (by omega),tb (by omega),tm hk]at he;unfold lO at he
 have hb:(uR (ls.take i) 3 (lA ls i).name || ((lA ls i).sum.any (fun x => !qJ ls x) || (lA ls i).nd.any (fun x => !vE ls x)))=false:=by
  cases hc:(uR (ls.take i) 3 (lA ls i).name || ((lA ls i).sum.any (fun x => !qJ ls x) || (lA ls i).nd.any (fun x => !vE ls x))) with
  | false=>rfl
  | true=>rw[hc,tm rfl]at he;exact absurd he (by decide)
 rw[bp,bp]at hb;obtain⟨-,hp,hn⟩:=hb;have hn':∀y∈(lA ls i).nd,vE ls y=true:=fun y hy=>by have:=dw.1 hn y hy;simpa using this
 have hp':∀y∈(lA ls i).sum,qJ ls y=true:=fun y hy=>by have:=dw.1 hp y hy;simpa using this
 have hin1:∀nm,uR ls 1 nm=true->0<=zI (uC ls) nm:=fun nm hh=>(fU _ _).2 ((YX _ _).2 (.inl hh));have hin2:∀nm,uR ls 2 nm=true->0<=zI (uC ls) nm:=fun nm hh=>(fU _ _).2 ((YX _ _).2 (.inr hh))
 have hco:∀nm,mB ls nm=true->zI (uC ls) nm<0/\0<=zI (zO ls) nm:=fun nm hh=>by
  refine⟨?_,(fU _ _).2 ((QA _ _).2 hh)⟩;rcases cp (zI (uC ls) nm) 0 with h1|h1
  ·exact h1
  ·have:=h.apart ((fU _ _).1 h1);rw[hh]at this;cases this
 refine⟨fun y hy=>?_,fun p hp2=>?_⟩
 ·have:=hn' y hy
  unfold vE at this;refine⟨fun k=>?_,fun k=>?_,fun k=>?_⟩
  ·rw[tm k]at this;exact hco _ this
  ·rw[tb (by omega),tm k]at this;exact hin2 _ this
  ·rw[tb (by omega),tb (by omega),tm k,pj,lq,pt]at this
   exact⟨hin1 _ this.2,fun ho=>hin1 _ (this.1.resolve_left ho)⟩
 ·have:=hp' p hp2
  unfold qJ Qs at this;rw[lq,lq,pt]at this;rcases this with h1|h1|h1
  ·exact .inl h1
  ·exact .inr (.inl (hin1 _ h1))
  ·exact .inr (.inr (hco _ h1).2)
theorem vJ.sums(h:vJ ls)(hx:x∈ls)(hk:x.kind=3):x.sum.length<=4/\∀p∈x.sum,p.starred=true->p.num<=9:=by
 obtain⟨i,hi,rfl⟩:=YW hx;have he:=h.many i hi;unfold tJ Vj tL at he;rw[tu hk,mu,bp,bp,bp,bp]at he;obtain⟨-,-,-,h1,h2⟩:=he;refine⟨by have:=of_decide_eq_false h1;omega,fun p hp hs=>?_⟩;have:=dw.1 h2 p hp;unfold tV at this;rw[hs]at this;simpa using this
theorem vJ.labs(h:vJ ls):(xW ls).Nodup:=by
 refine B2 ls fun i hi hk=>?_;have he:=h.err i hi;unfold lB at he;rw[tb (by omega),tb (by omega),tm hk]at he;unfold lO at he
 cases hc:uR (ls.take i) 3 (lA ls i).name with
 | false=>rfl
 | true=>rw[hc,fg,tm rfl]at he;exact absurd he (by decide)
structure pB where
 n:Nat
 head:Nat->Nat
 abv:Nat->Nat->Bool
 app:Nat->(Nat->Bool)->Bool
 sum:Nat->(Nat->Int)->Int
 lev:Nat->Nat
 nm:Nat->Nat->Prop
 happ:∀r f g,r<n->(∀c,nm r c->f c=g c)->app r f=app r g
 hsum:∀r f g,r<n->(∀c,nm r c->f c=g c)->sum r f=sum r g
 hlev:∀r c,r<n->nm r c->lev c<lev (head r)
 habv:∀k r,k<n->r<n->abv k r=true->head k=head r
def kJ(A:pB)(on:Nat->Bool)(r:Nat):Bool:=(List.range A.n).any fun k=>on k&&A.abv k r
def Yv(A:pB)(on:Nat->Bool)(r:Nat):Int:=if on r then (if kJ A on r then 1 else 2) else 0
def xL(A:pB)(on:Nat->Bool)(c:Nat):List Nat:=(List.range A.n).filter fun r=>decide (A.head r=c)&&(on r && !kJ A on r)
def nM:List Nat->Int
 | []=>0
 | [_]=>1
 | _=>2
def ZQ(f:Nat->Int):List Nat->Int
 | [r]=>f r
 | _=>0
def iF(A:pB)(on:Nat->Bool)(c:Nat):Int:=nM (xL A on c)
def zFF(A:pB)(has:Nat->Bool):Nat->Bool:=fun c=>decide (iF A (fun r=>A.app r has) c=1)
def CV(A:pB)(has:Nat->Bool)(val:Nat->Int):Nat->Int:=fun c=>ZQ (fun r=>A.sum r val) (xL A (fun r=>A.app r has) c)
def lL(A:pB):Nat->Nat->Bool
 | 0=>fun _=>false
 | k+1=>zFF A (lL A k)
def lK(A:pB):Nat->Nat->Int
 | 0=>fun _=>0
 | k+1=>CV A (lL A k) (lK A k)
def XX(A:pB)(k:Nat)(r:Nat):Bool:=A.app r (lL A k)
theorem eC(A:pB)(hr:r<A.n)(h:∀k,k<A.n->A.head k=A.head r->f k=g k):kJ A f r=kJ A g r:=by
 unfold kJ;rw[dg];simp only[md,pq,pj];constructor
 ·rintro⟨k,h1,h2,h3⟩;exact⟨k,h1,(h k h1 (A.habv k r h1 hr h3)) ▸ h2,h3⟩
 ·rintro⟨k,h1,h2,h3⟩;exact⟨k,h1,(h k h1 (A.habv k r h1 hr h3)).symm ▸ h2,h3⟩
theorem dJ(A:pB)(h:∀k,k<A.n->A.head k=c->f k=g k):xL A f c=xL A g c:=by
 unfold xL;apply List.filter_congr
 intro r hr;rw[pq]at hr;by_cases hc:A.head r=c
 ·rw[h r hr hc,eC A hr (fun k hk e=>h k hk (e.trans hc))]
 ·simp[hc]
theorem Yu(A:pB)(hr:r<A.n)(h:∀k,k<A.n->A.head k=A.head r->f k=g k):Yv A f r=Yv A g r:=by
 unfold Yv;rw[h r hr rfl,eC A hr h]
theorem rR(A:pB)(h:r∈xL A f c):r<A.n/\A.head r=c/\f r=true/\kJ A f r=false:=by
 unfold xL at h;simpa[mj] using h
theorem sZ{f g:Nat->Int}{l:List Nat}(h:∀r∈l,f r=g r):ZQ f l=ZQ g l:=by
 match l with
 | []=>rfl
 | [r]=>exact h r (by simp)
 | _::_::_=>rfl
theorem pC(A:pB):∀k c j,A.lev c<k->k<=j->lL A j c=lL A k c/\lK A j c=lK A k c:=by
 intro k
 induction k with
 | zero=>intro c j h;omega
 | succ k ih =>
   intro c j hc hj;obtain⟨j,rfl⟩:∃i,j=i+1:=⟨j-1,by omega⟩
   have hon:∀r,r<A.n->A.head r=c->A.app r (lL A j)=A.app r (lL A k):=fun r hr e=>A.happ r _ _ hr fun c' hn=>by
    have:=A.hlev r c' hr hn;rw[e]at this;exact(ih c' j (by omega) (by omega)).1
   have hs:xL A (fun r=>A.app r (lL A j)) c=xL A (fun r=>A.app r (lL A k)) c:=dJ A hon;constructor
   ·show decide (nM (xL A (fun r=>A.app r (lL A j)) c)=1)=decide (nM (xL A (fun r=>A.app r (lL A k)) c)=1)
    rw[hs]
   ·simp only[lK,CV]
    rw[hs];refine sZ fun r hr=>?_;obtain⟨h1,h2,_,_⟩:=rR A hr
    exact A.hsum r _ _ h1 fun c' hn=>by
     have:=A.hlev r c' h1 hn;rw[h2]at this;exact(ih c' j (by omega) (by omega)).2
theorem wW(A:pB){k j:Nat}(hr:r<A.n)(hk:A.lev (A.head r)<=k)(hj:k<=j):XX A j r=XX A k r :=
 A.happ r _ _ hr fun c hn=>by
  have:=A.hlev r c hr hn;exact(pC A k c j (by omega) hj).1
structure vS where
 has:Nat->Bool
 val:Nat->Int
 ap:Nat->Bool
 vd:Nat->Int
 st:Nat->Int
 av:Nat->Int
def h0:vS:=⟨fun _=>false,fun _=>0,fun _=>false,fun _=>0,fun _=>0,fun _=>0⟩
def uF(A:pB)(c:Nat)(s:vS):vS :=
 let ap':=fun r=>if A.head r=c then A.app r s.has else s.ap r
 let l:=xL A ap' c
 { has:=fun x=>if x=c then (if l.length=1 then true else s.has x) else s.has x
   val:=fun x=>if x=c then (if l.length=1 then ZQ (fun r=>A.sum r s.val) l else s.val x) else s.val x
   ap:=ap'
   vd:=fun r=>if A.head r=c then (if ap' r then (if kJ A ap' r then 1 else 2) else s.vd r) else s.vd r
   st:=fun x=>if x=c then (if l.length=0 then s.st x else nM l) else s.st x
   av:=fun x=>if x=c then (if l.length=1 then ZQ (fun r=>A.sum r s.val) l else s.av x) else s.av x }
structure jE(A:pB)(S:Nat->Prop)(s:vS):Prop where
 has:∀c,(S c->s.has c=lL A (A.lev c+1) c)/\(¬S c->s.has c=false)
 val:∀c,(S c->s.val c=lK A (A.lev c+1) c)/\(¬S c->s.val c=0)
 ap:∀r,r<A.n->(S (A.head r)->s.ap r=XX A (A.lev (A.head r)) r)/\(¬S (A.head r)->s.ap r=false)
 vd:∀r,r<A.n->(S (A.head r)->s.vd r=Yv A (XX A (A.lev (A.head r))) r)/\(¬S (A.head r)->s.vd r=0)
 st:∀c,(S c->s.st c=iF A (XX A (A.lev c)) c)/\(¬S c->s.st c=0)
 av:∀c,(S c->s.av c=lK A (A.lev c+1) c)/\(¬S c->s.av c=0)
theorem zFQ(A:pB):jE A (fun _=>False) h0:=by
 constructor <;> intros <;> exact⟨fun h=>h.elim,fun _=>rfl⟩
theorem QE{l:List Nat}:nM l=1 ↔ l.length=1:=by
 match l with
 | []=>simp[nM]
 | [r]=>simp[nM]
 | _::_::_=>simp[nM]
theorem K0{f:Nat->Int}{l:List Nat}(h:l.length≠1):ZQ f l=0:=by
 match l with
 | []=>rfl
 | [r]=>simp at h
 | _::_::_=>rfl
theorem Qv(A:pB){S:Nat->Prop}{s:vS}(h:jE A S s)(hc:¬S c)(hl:∀c',A.lev c'<A.lev c->(∃r,r<A.n/\A.nm r c')->S c'):jE A (fun x=>S x\/x=c) (uF A c s):=by
 have happ:∀r,r<A.n->A.head r=c->A.app r s.has=XX A (A.lev c) r:=fun r hr e=>A.happ r _ _ hr fun c' hn=>by
  have h1:=A.hlev r c' hr hn;rw[e]at h1;rw[(h.has c').1 (hl c' h1 ⟨r,hr,hn⟩)];exact(pC A (A.lev c'+1) c' (A.lev c) (by omega) (by omega)).1.symm
 have hsum:∀r,r<A.n->A.head r=c->A.sum r s.val=A.sum r (lK A (A.lev c)):=fun r hr e=>A.hsum r _ _ hr fun c' hn=>by
  have h1:=A.hlev r c' hr hn;rw[e]at h1;rw[(h.val c').1 (hl c' h1 ⟨r,hr,hn⟩)];exact(pC A (A.lev c'+1) c' (A.lev c) (by omega) (by omega)).2.symm
 have hs:xL A (fun r=>if A.head r=c then A.app r s.has else s.ap r) c=xL A (XX A (A.lev c)) c:=dJ A fun k hk e=>by simp only[e,f9];exact happ k hk e
 have hb:∀r,r<A.n->A.head r=c->kJ A (fun r=>if A.head r=c then A.app r s.has else s.ap r) r=kJ A (XX A (A.lev c)) r:=fun r hr e=>eC A hr fun k hk e2=>by simp only[e2.trans e,f9];exact happ k hk (e2.trans e)
 have hv:ZQ (fun r=>A.sum r s.val) (xL A (XX A (A.lev c)) c)=lK A (A.lev c+1) c:=by
  simp only[lK,CV]
  exact sZ fun r hr=>by
   obtain⟨h1,h2,_,_⟩:=rR A hr;exact hsum r h1 h2
 have hh:lL A (A.lev c+1) c=decide ((xL A (XX A (A.lev c)) c).length=1):=by
  simp only[lL,zFF,iF];exact decide_eq_decide.2 QE
 have hx:∀c',c'≠c->((S c'\/c'=c) ↔ S c'):=fun c' zK8=>⟨fun h=>h.resolve_right zK8,.inl⟩;constructor
 ·intro x
  simp only[uF];by_cases e:x=c
  ·subst e
   refine⟨fun _=>?_,fun hn=>absurd (.inr rfl) hn⟩;rw[tm rfl,hs,hh];by_cases k:(xL A (XX A (A.lev x)) x).length=1
   ·rw[tm k,tu k]
   ·rw[tb k,tq k];exact(h.has x).2 hc
  ·rw[tb e,hx x e];exact h.has x
 ·intro x
  simp only[uF];by_cases e:x=c
  ·subst e
   refine⟨fun _=>?_,fun hn=>absurd (.inr rfl) hn⟩;rw[tm rfl,hs,<-hv];by_cases k:(xL A (XX A (A.lev x)) x).length=1
   ·rw[tm k]
   ·rw[tb k,K0 k];exact(h.val x).2 hc
  ·rw[tb e,hx x e];exact h.val x
 ·intro r hr
  simp only[uF];by_cases e:A.head r=c
  ·rw[tm e]
   refine⟨fun _=>?_,fun hn=>absurd (.inr e) hn⟩;rw[happ r hr e,e]
  ·rw[tb e,hx _ e];exact h.ap r hr
 ·intro r hr
  simp only[uF];by_cases e:A.head r=c
  ·refine⟨fun _=>?_,fun hn=>absurd (Or.inr e) hn⟩
   have h9:(if A.head r=c then A.app r s.has else s.ap r)=XX A (A.lev c) r:=by rw[tm e,happ r hr e]
   rw[hb r hr e,tm e,show A.lev (A.head r)=A.lev c by rw[e]];unfold Yv;by_cases k:XX A (A.lev c) r=true
   ·rw[tm k,tm (h9.trans k)]
   ·rw[tb k,tb (fun x=>k (h9.symm.trans x))];exact(h.vd r hr).2 (by rw[e];exact hc)
  ·rw[tb e,hx _ e];exact h.vd r hr
 ·intro x
  simp only[uF];by_cases e:x=c
  ·subst e
   refine⟨fun _=>?_,fun hn=>absurd (.inr rfl) hn⟩;rw[tm rfl,hs];unfold iF;by_cases k:(xL A (XX A (A.lev x)) x).length=0
   ·rw[tm k,lj k,(h.st x).2 hc];rfl
   ·rw[tb k]
  ·rw[tb e,hx x e];exact h.st x
 ·intro x
  simp only[uF];by_cases e:x=c
  ·subst e
   refine⟨fun _=>?_,fun hn=>absurd (.inr rfl) hn⟩;rw[tm rfl,hs,<-hv];by_cases k:(xL A (XX A (A.lev x)) x).length=1
   ·rw[tm k]
   ·rw[tb k,K0 k];exact(h.av x).2 hc
  ·rw[tb e,hx x e];exact h.av x
def bC(A:pB)(H l:Nat):Nat->Nat->vS->vS
 | 0,_,s=>s
 | f+1,i,s=>bC A H l f (i+1) (if A.lev i=l then uF A i s else s)
def xP(A:pB)(H:Nat):Nat->Nat->vS->vS
 | 0,_,s=>s
 | f+1,l,s=>xP A H f (l+1) (bC A H l H 0 s)
theorem jE.same{A:pB}{S T:Nat->Prop}{s:vS}(h:jE A S s)(e:∀x,S x ↔ T x):jE A T s:=by
 obtain rfl:S=T:=funext fun x=>propext (e x);exact h
theorem qd(A:pB)(H l:Nat)(hn:∀r c,r<A.n->A.nm r c->c<H):∀f i s,i+f=H->jE A (fun x=>x<H/\(A.lev x<l\/A.lev x=l/\x<i)) s->jE A (fun x=>x<H/\A.lev x<l+1) (bC A H l f i s):=by
 intro f
 induction f with
 | zero=>intro i s hi h;exact h.same fun x=>by constructor <;> intro hx <;> omega
 | succ f ih =>
   intro i s hi h;rw[bC];refine ih (i+1) _ (by omega) ?_;by_cases e:A.lev i=l
   ·rw[tm e]
    refine(Qv A h (c:=i) (by omega) ?_).same fun x=>?_
    ·rintro c' hc ⟨r,hr,hnm⟩
     exact⟨hn r c' hr hnm,.inl (by omega)⟩
    ·constructor
     ·rintro(h1|h1)
      ·omega
      ·subst h1;exact⟨by omega,.inr ⟨e,by omega⟩⟩
     ·rintro⟨h1,h2⟩
      by_cases k:x=i
      ·exact .inr k
      ·exact .inl ⟨h1,by omega⟩
   ·rw[tb e]
    refine h.same fun x=>?_;constructor
    ·intro hx;omega
    ·rintro⟨h1,h2⟩
     refine⟨h1,?_⟩;rcases h2 with h2|⟨h2,h3⟩
     ·exact .inl h2
     ·refine .inr ⟨h2,?_⟩
      rcases mc x i with h4|h4
      ·exact h4
      ·obtain rfl:x=i:=by omega
       exact absurd h2 e
theorem FH(A:pB)(H:Nat)(hn:∀r c,r<A.n->A.nm r c->c<H):∀f l s,l+f=H->jE A (fun x=>x<H/\A.lev x<l) s->jE A (fun x=>x<H/\A.lev x<H) (xP A H f l s):=by
 intro f
 induction f with
 | zero=>intro l s hl h;exact h.same fun x=>by constructor <;> intro hx <;> omega
 | succ f ih =>
   intro l s hl h;rw[xP];refine ih (l+1) _ (by omega) ?_;exact qd A H l hn H 0 s (by omega) (h.same fun x=>by constructor <;> intro hx <;> omega)
theorem FU(A:pB)(H:Nat)(hn:∀r c,r<A.n->A.nm r c->c<H)(hl:∀c,c<H->A.lev c<H)(hh:∀r,r<A.n->A.head r<H)(n:Nat)(hN:n+1=H) :
 (∀r,r<A.n->(xP A H H 0 h0).vd r=Yv A (XX A n) r)/\(∀c,c<H->(xP A H H 0 h0).st c=iF A (XX A n) c/\(xP A H H 0 h0).av c=lK A H c):=by
 have h:=FH A H hn H 0 h0 (by omega) ((zFQ A).same fun x=>⟨False.elim,fun hx=>by omega⟩);generalize xP A H H 0 h0=s at *;constructor
 ·intro r hr
  have h1:=hl _ (hh r hr);rw[(h.vd r hr).1 ⟨hh r hr,h1⟩];exact Yu A hr fun k hk e=>(wW A hk (show A.lev (A.head k)<=A.lev (A.head r) by rw[e];omega) (show A.lev (A.head r)<=n by omega)).symm
 ·intro c hc
  have h1:=hl c hc;rw[(h.st c).1 ⟨hc,h1⟩,(h.av c).1 ⟨hc,h1⟩];constructor
  ·unfold iF
   rw[dJ A fun k hk e=>(wW A hk (show A.lev (A.head k)<=A.lev c by rw[e];omega) (show A.lev c<=n by omega)).symm]
  ·exact(pC A (A.lev c+1) c H (by omega) (by omega)).2.symm
def jL:Nat->Int
 | 0=>9999
 | k+1=>36*jL k
theorem fK:∀k,9999<=jL k:=by
 intro k
 induction k with
 | zero=>exact l9 _
 | succ k ih=>rw[jL];omega
theorem Ux(A:pB)(hs:∀r (f:Nat->Int) (B:Int),r<A.n->9999<=B->(∀c,-B<=f c/\f c<=B) -> -(36*B)<=A.sum r f/\A.sum r f<=36*B):∀k c,-(jL k)<=lK A k c/\lK A k c<=jL k:=by
 intro k
 induction k with
 | zero=>intro c;show -(9999:Int)<=0/\(0:Int)<=9999;exact⟨by decide,by decide⟩
 | succ k ih =>
   intro c;have hk:=fK k;rw[lK,CV,jL];generalize hl:xL A (fun r=>A.app r (lL A k)) c=l
   match l,hl with
   | [],_=>exact⟨by show -(36*jL k)<=0;omega,by show (0:Int)<=36*jL k;omega⟩
   | [r],hl =>
     have hr:=(rR A (show r∈xL A (fun r=>A.app r (lL A k)) c by rw[hl];simp)).1;exact hs r (lK A k) (jL k) hr hk ih
   | _::_::_,_=>exact⟨by show -(36*jL k)<=0;omega,by show (0:Int)<=36*jL k;omega⟩
def fG(ls:List zE):List zE:=ls.filter fun x=>decide (x.kind=3)
theorem Xg(ls:List zE):xW ls=(fG ls).map zE.name:=by
 have key:∀(ls:List zE) acc,kZ ls acc=acc++(ls.filter fun x=>decide (x.kind=3)).map zE.name:=by
  intro ls
  induction ls with
  | nil=>intro acc;simp[kZ]
  | cons x r ih=>intro acc;rw[kZ,ih];by_cases h:x.kind=3 <;> simp[h]
 unfold xW fG;rw[key];simp
theorem rS(ins cs:List Bs)(ls:List zE):uD ins cs ls=(fG ls).map (uX ins cs):=by
 unfold uD fG;rw[Fd];simp
theorem UK(h:x∈fG ls):x∈ls/\x.kind=3:=by
 have:=mj.1 h;exact⟨this.1,by simpa using this.2⟩
theorem UL(ls:List zE):(fG ls).length=xZ 3 ls:=by
 unfold fG
 induction ls with
 | nil=>rfl
 | cons x r ih=>rw[xZ];by_cases h:x.kind=3 <;> simp[h,ih];omega
theorem xt(h:r<(fG ls).length):(fG ls).getD r Yc∈fG ls:=by simp[List.getD,h]
theorem JF(H:Nat)(f:Nat->Bool)(a:Int):kP ((List.range H).map f) a=(decide (0<=a)&&(decide (a<H)&&f a.toNat)):=by
 unfold kP;by_cases h0:0<=a
 ·by_cases h1:a<H
  ·rw[tu h0,tu h1]
   simp only[pi,List.length_range,tu h1,mu];simp[List.getD,show a.toNat<H by omega]
  ·rw[tq h1]
   simp only[pi,List.length_range,tq h1,ce]
 ·rw[tq h0];rfl
theorem Va(H:Nat)(f:Nat->Int)(a:Int):kF ((List.range H).map f) a=if 0<=a/\a<H then f a.toNat else 0:=by
 unfold kF;simp only[pi,List.length_range];by_cases h:0<=a/\a<H
 ·rw[tm h,tm h];simp[List.getD,show a.toNat<H by omega]
 ·rw[tb h,tb h]
def zJ9(r:xO)(c:Nat):Prop:=(∃p∈r.sum,p.kind=3/\p.place=(c:Int))\/∃y∈r.guard,y.kind=5/\y.place=(c:Int)
theorem XH(r:xO)(H:Nat)(inp v v':List Int)(f g:Nat->Bool)(h:∀c,zJ9 r c->f c=g c):qU r ⟨inp,(List.range H).map f,v⟩=qU r ⟨inp,(List.range H).map g,v'⟩:=by
 have hT:∀a:Int,(∀c:Nat,a=(c:Int)->zJ9 r c)->kP ((List.range H).map f) a=kP ((List.range H).map g) a:=fun a ha=>by
  rw[JF,JF];by_cases h0:0<=a
  ·rw[h a.toNat (ha a.toNat (by omega))]
  ·rw[tq h0];rfl
 have h1:jD ⟨inp,(List.range H).map f,v⟩ r.sum=jD ⟨inp,(List.range H).map g,v'⟩ r.sum:=by
  unfold jD
  exact Jh fun p hp=>by
   by_cases k:p.kind=3
   ·rw[hT p.place fun c e=>.inl ⟨p,hp,k,e⟩]
   ·rw[tq k];rfl
 have h2:∀(N:List qV) hs,(∀y∈N,y∈r.guard)->cU ⟨inp,(List.range H).map f,v⟩ N hs=cU ⟨inp,(List.range H).map g,v'⟩ N hs:=by
  intro N
  induction N with
  | nil=>intro hs _;rfl
  | cons y t ih =>
    intro hs hy;rw[cU,cU]
    have e:Kt y ⟨inp,(List.range H).map f,v⟩ hs=Kt y ⟨inp,(List.range H).map g,v'⟩ hs:=by
     unfold Kt;by_cases k:y.kind=5
     ·simp only[k]
      exact hT y.place fun c e=>.inr ⟨y,hy y (by simp),k,e⟩
     ·simp only[k,if_false];rfl
    rw[e];exact ih _ fun z hz=>hy z (by simp[hz])
 unfold qU;rw[h1,h2 r.guard [] fun y hy=>hy]
theorem Y9(r:xO)(H:Nat)(inp:List Int)(v v':List Bool)(f g:Nat->Int)(h:∀c,zJ9 r c->f c=g c):YA ⟨inp,v,(List.range H).map f⟩ r.sum=YA ⟨inp,v',(List.range H).map g⟩ r.sum:=by
 have key:∀(l:List lX) n,(∀p∈l,p∈r.sum)->dI ⟨inp,v,(List.range H).map f⟩ l n=dI ⟨inp,v',(List.range H).map g⟩ l n:=by
  intro l
  induction l with
  | nil=>intro n _;rfl
  | cons p t ih =>
    intro n hp;rw[dI,dI]
    have e:nL ⟨inp,v,(List.range H).map f⟩ p=nL ⟨inp,v',(List.range H).map g⟩ p:=by
     unfold nL;by_cases k:p.kind=3
     ·simp only[k]
      rw[Va,Va];by_cases h0:0<=p.place/\p.place<H
      ·rw[tm h0,tm h0,h p.place.toNat (.inl ⟨p,hp p (by simp),k,by omega⟩)]
      ·rw[tb h0,tb h0]
     ·simp only[k,if_false]
    rw[e];exact ih _ fun z hz=>hp z (by simp[hz])
 exact key r.sum 0 fun p hp=>hp
theorem KK(h:vJ ls)(hx:x∈ls)(hk:x.kind=3){a:Nat}(ha:a<(xW ls).length)(e:x.name=(xW ls).getD a []):(fG ls).getD a Yc=x:=by
 have hx2:x∈fG ls:=mj.2 ⟨hx,by simpa using hk⟩;obtain⟨b,hb,rfl⟩:=ct hx2;have hl:(xW ls).length=(fG ls).length:=by rw[Xg];simp
 have e2:(xW ls).getD b []=(xW ls).getD a []:=by
  rw[<-e,Xg];simp[List.getD,hb]
 have:=Bj h.labs (show b<_ by omega) ha e2;subst this;simp[List.getD,hb]
theorem Ct(h:vJ ls){i k:Nat}(hg:gA (zS (uT (xW ls) ls gZ)) i k=true)(hi:i<8)(hk:k<8):((fG ls).getD i Yc).conc=((fG ls).getD k Yc).conc:=by
 have hl:(uT (xW ls) ls gZ).length=64:=by rw[pT];exact yY
 refine(eA hl i k).1 ⟨hi,hk,hg⟩ (fun a b=>((fG ls).getD a Yc).conc=((fG ls).getD b Yc).conc) (fun a b hab=>?_) (fun _ _ _ h1 h2=>h1.trans h2);obtain⟨ha8,hb8,hgg⟩:=hab;rw[YN _ _ ha8 hb8 _ yY,BE,lu]at hgg;obtain⟨x,hx,hxo⟩:=md.1 hgg;rw[zJQ h.labs x,pj,pj,pt,pt]at hxo;obtain⟨ha,hb,hov⟩:=hxo;unfold ovX at hov;simp only[pj,pt]at hov;obtain⟨hk4,hn1,hn2⟩:=hov;obtain⟨j,hj,rfl⟩:=YW hx;have he:=h.err j hj;unfold lB at he;rw[tb (by omega),tb (by omega),tb (by omega),tm hk4]at he;unfold cL at he;by_cases h1:uK ls (lA ls j).name=ls.length\/uK ls (lA ls j).lower=ls.length
 ·rw[tm h1]at he;exact absurd he (by decide)
 ·rw[tb h1]at he
  have zK4:uK ls (lA ls j).name<ls.length/\uK ls (lA ls j).lower<ls.length:=by
   have a1:=iP ls (lA ls j).name;have a2:=iP ls (lA ls j).lower;omega
  have hc:(lA ls (uK ls (lA ls j).name)).conc=(lA ls (uK ls (lA ls j).lower)).conc:=by
   rcases Classical.em ((lA ls j).name=(lA ls j).lower\/(lA ls (uK ls (lA ls j).name)).conc≠(lA ls (uK ls (lA ls j).lower)).conc) with h2|h2
   ·rw[tm h2]at he;exact absurd he (by decide)
   ·exact Classical.not_not.1 fun hn=>h2 (.inr hn)
  have hit:∀nm,uK ls nm<ls.length->lA ls (uK ls nm)∈ls/\(lA ls (uK ls nm)).kind=3/\(lA ls (uK ls nm)).name=nm:=fun nm zK4=>by
   have:=Gh (Zb 3 nm) ls 0 (by unfold uK at zK4;omega);rw[Nat.sub_zero]at this;have h3:Zb 3 nm (lA ls (uK ls nm))=true:=this;unfold Zb at h3;simp only[pj,pt]at h3;exact⟨by unfold lA;simp[List.getD,zK4],h3.1,h3.2⟩
  obtain⟨p1,p2,p3⟩:=hit _ zK4.1;obtain⟨q1,q2,q3⟩:=hit _ zK4.2;rw[KK h p1 p2 ha (by rw[p3];exact hn1),KK h q1 q2 hb (by rw[q3];exact hn2)];exact hc
def iL(ls:List zE)(r:Nat):Nat:=(zI (zO ls) ((fG ls).getD r Yc).conc).toNat
theorem sE(h:r<(fG ls).length):zI (zO ls) ((fG ls).getD r Yc).conc=(iL ls r:Int)/\iL ls r<(zO ls).length:=by
 have hm:=UK (xt h);have h1:0<=zI (zO ls) ((fG ls).getD r Yc).conc:=(fU _ _).2 ((QA _ _).2 (md.2 ⟨_,hm.1,by unfold Dj;rw[tu hm.2];simp⟩));have h2:=jS (zO ls) ((fG ls).getD r Yc).conc;unfold iL;omega
def eV(ls:List zE)(r:Nat):xO:=uX (uC ls) (zO ls) ((fG ls).getD r Yc)
theorem Bl(h:vJ ls)(hr:r<(fG ls).length)(hn:zJ9 (eV ls r) c):c<(zO ls).length/\dD (qK (zO ls) ls gZ) c<dD (qK (zO ls) ls gZ) (iL ls r):=by
 have h8:=h.heads;obtain⟨hm,hk⟩:=UK (xt hr);obtain⟨hf,zK4⟩:=sE hr;have hl:(qK (zO ls) ls gZ).length=64:=by rw[fL];exact yY
 have hc:(((fG ls).getD r Yc).sum.any (fun y=>decide (zI (zO ls) y.name=(c:Int))) || ((fG ls).getD r Yc).nd.any (fun y=>decide (y.kind=5)&&decide (zI (zO ls) y.name=(c:Int))))=true/\c<(zO ls).length:=by
  rcases hn with ⟨p,hp,k,e⟩|⟨y,hy,k,e⟩
  ·obtain⟨q,hq,rfl⟩:=p8.1 hp
   have hq3:Bo (uC ls) q=3:=k;have hqp:zFI (uC ls) (zO ls) q=(c:Int):=e;unfold Bo at hq3;unfold zFI at hqp;by_cases h0:q.name=[]
   ·rw[tm h0]at hq3;exact absurd hq3 (by decide)
   ·rw[tb h0]at hq3 hqp
    by_cases h1:zI (uC ls) q.name<0
    ·rw[tm h1]at hqp
     exact⟨by rw[lq];exact .inl (md.2 ⟨q,hq,by simpa using hqp⟩),by have:=jS (zO ls) q.name;omega⟩
    ·rw[tb h1]at hq3;exact absurd hq3 (by decide)
  ·obtain⟨q,hq,rfl⟩:=p8.1 hy
   have hq5:q.kind=5:=k;have hqp:Us (uC ls) (zO ls) q=(c:Int):=e;unfold Us at hqp;rw[tm hq5]at hqp;exact⟨by rw[lq];exact .inr (md.2 ⟨q,hq,by simp[hq5,hqp]⟩),by have:=jS (zO ls) q.name;omega⟩
 refine⟨hc.2,qe hl h.nam (by omega) (by omega) ?_⟩;rw[YU _ _ (by omega) (by omega) _ yY,BE,lu];exact md.2 ⟨_,hm,by unfold zER;rw[hk,hf,hc.1];simp⟩
def vT(ls:List zE)(inp:List Int)(h:vJ ls):pB where
 n:=(fG ls).length
 head:=iL ls
 abv:=gA (zS (uT (xW ls) ls gZ))
 app:=fun r f=>qU (eV ls r) ⟨inp,(List.range (zO ls).length).map f,[]⟩
 sum:=fun r f=>YA ⟨inp,[],(List.range (zO ls).length).map f⟩ (eV ls r).sum
 lev:=dD (qK (zO ls) ls gZ)
 nm:=fun r=>zJ9 (eV ls r)
 happ:=fun r f g _ hfg=>XH (eV ls r) _ inp [] [] f g hfg
 hsum:=fun r f g _ hfg=>Y9 (eV ls r) _ inp [] [] f g hfg
 hlev:=fun r c hr hn=>(Bl h hr hn).2
 habv:=fun k r hk hr hg=>by
  have h8:(fG ls).length<=8:=by rw[UL];exact h.rules
  unfold iL;rw[Ct h hg (by omega) (by omega)]
theorem Jj(ls:List zE)(inp:List Int)(h:vJ ls)(a b:Nat):(vT ls inp h).abv a b=gA (zS (uT (xW ls) ls gZ)) a b:=by simp only[vT]
def bS(pl:Nat->Int)(j:Nat):Nat->Nat
 | 0=>0
 | m+1=>bS pl j m+(if pl m=(j:Int) then 1 else 0)
theorem VP(pl:Nat->Int)(j:Nat){m m':Nat}(h:m<=m'):bS pl j m<=bS pl j m':=by
 induction m' with
 | zero=>obtain rfl:m=0:=by omega
         exact j1 _
 | succ k ih =>
   rcases mc m (k+1) with h1|h1
   ·rw[bS];have:=ih (by omega);omega
   ·obtain rfl:m=k+1:=by omega
    exact j1 _
structure Jm where
 name:Bs
 isNum:Bool
 value:Int
def dU(f:Jm):Value:=.agg #[.string ⟨f.name.toArray⟩,.bool f.isNum,.int .i64 f.value]
def nZ(t:PT):Bool:=decide (t.k=2)&&(decide (t.s=[121,101,115]) || decide (t.s=[110,111]))
def qS(n v:PT):Jm:=if v.k=3 then ⟨n.s,true,v.v⟩ else ⟨n.s,false,if v.s=[121,101,115] then 1 else 0⟩
def bI(f:Jm)(x:zP):Bool:=if x.isFlag then !f.isNum else f.isNum&&(decide (x.low<=f.value)&&decide (f.value<=x.high))
theorem QH(w:World)(t:PT)(s:Bs):Calls Tryz.prog 130 #[XW t,.string ⟨s.toArray⟩] w fun e w'=>e=.returned (.bool (decide (t.k=4)&&decide (t.s=s)))/\Below w.heap.size w w':=by
 obtain⟨k,x,v,p⟩:=t;simp only[XW];by_cases k1:k=4
 ·by_cases k2:x=s
  ·have HA:Hid ((decide (k=4)&&decide (x=s))=true):=by unfold Hid;rw[tu k1,tu k2];rfl
   have b2:(x==s)=true:=by simpa using k2
   generalize (decide (k=4)&&decide (x=s))=a at *;clear k2
   go_enter Tryz.func130,Tryz.ntmps130
   go_wp2_with fail
   go_ret
   exact⟨zF HA.out.symm,fj (j1 _) _⟩
  ·have HA:Hid ((decide (k=4)&&decide (x=s))=false):=by unfold Hid;rw[tq k2];simp
   have b2:(x==s)=false:=by simpa using k2
   generalize (decide (k=4)&&decide (x=s))=a at *;clear k2
   go_enter Tryz.func130,Tryz.ntmps130
   go_wp2_with fail
   go_ret
   exact⟨zF HA.out.symm,fj (j1 _) _⟩
 ·have HA:Hid ((decide (k=4)&&decide (x=s))=false):=by unfold Hid;rw[tq k1];rfl
  have b1:(k==4)=false:=by simpa using k1
  generalize (decide (k=4)&&decide (x=s))=a at *;clear k1
  go_enter Tryz.func130,Tryz.ntmps130
  go_wp2_with fail
  go_ret
  exact⟨zF HA.out.symm,fj (j1 _) _⟩
theorem Vu(w:World)(t:PT):Calls Tryz.prog 131 #[XW t] w fun e w'=>e=.returned (.bool (nZ t))/\Below w.heap.size w w':=by
 have HA:Hid (nZ t=(decide (t.k=2)&&(decide (t.s=[121,101,115]) || decide (t.s=[110,111])))):=rfl;generalize nZ t=ans at *;obtain⟨k,x,v,p⟩:=t;simp only[XW]at *;by_cases k1:k=2
 ·by_cases k2:x=[121,101,115]
  ·rw[tu k1,tu k2]at HA
   have b2:(x==[121,101,115])=true:=by simpa using k2
   clear k2
   go_enter Tryz.func131,Tryz.ntmps131
   go_wp2_with fail
   go_ret
   exact⟨zF HA.out.symm,fj (j1 _) _⟩
  ·rw[tu k1,tq k2,mu,lu]at HA
   have b2:(x==[121,101,115])=false:=by simpa using k2
   have hd:decide (x=[110,111])=(x==[110,111]):=by rw[dg];simp
   rw[hd]at HA;clear k2 hd
   go_enter Tryz.func131,Tryz.ntmps131
   go_wp2_with fail
   go_ret
   exact⟨zF HA.out.symm,fj (j1 _) _⟩
 ·rw[tq k1,ce]at HA
  have b1:(k==2)=false:=by simpa using k1
  clear k1
  go_enter Tryz.func131,Tryz.ntmps131
  go_wp2_with fail
  go_ret
  exact⟨zF HA.out.symm,fj (j1 _) _⟩
theorem zI4(w:World)(f:Jm)(x:zP):Calls Tryz.prog 87 #[dU f,ZD x] w fun e w'=>e=.returned (.bool (bI f x))/\Below w.heap.size w w':=by
 have HA:Hid (bI f x=if x.isFlag then !f.isNum else f.isNum&&(decide (x.low<=f.value)&&decide (f.value<=x.high))):=rfl;have HB0:=zA (show ∀o1 o2,Below w.heap.size w ((w.alloc o1).alloc o2) from fun o1 o2=>(fj (j1 _) _).alloc (by simp) _);generalize bI f x=ans at *;obtain⟨fn,fi,fv⟩:=f;obtain⟨xn,xf,xl,xh⟩:=x;simp only[dU,ZD]at *;cases xf
 ·simp only[Bool.false_eq_true,if_false]at HA
  cases fi
  ·simp only[ce]at HA
   go_enter Tryz.func87,Tryz.ntmps87
   go_wp2_with fail
   go_ret
   exact⟨zF HA.out.symm,HB0.out _ _⟩
  ·simp only[mu]at HA
   by_cases k1:xl<=fv
   ·rw[tu k1,mu]at HA
    go_enter Tryz.func87,Tryz.ntmps87
    go_wp2_with fail
    go_ret
    exact⟨zF HA.out.symm,HB0.out _ _⟩
   ·rw[tq k1,ce]at HA
    have k2:decide (xl<=fv)=false:=tq k1
    go_enter Tryz.func87,Tryz.ntmps87
    go_wp2_with fail
    go_ret
    exact⟨zF HA.out.symm,HB0.out _ _⟩
 ·simp only[f9]at HA
  go_enter Tryz.func87,Tryz.ntmps87
  go_wp2_with fail
  go_ret
  exact⟨zF HA.out.symm,HB0.out _ _⟩
theorem JT:(Tryz.prog.info? 200).map (·.size)=some 3:=by kernel_rfl
theorem ji(w:World)(n v:PT):Calls Tryz.prog 85 #[XW n,XW v] w fun e w'=>e=.returned (dU (qS n v))/\Below w.heap.size w w':=by
 have HA:Hid (qS n v=if v.k=3 then ⟨n.s,true,v.v⟩ else ⟨n.s,false,if v.s=[121,101,115] then 1 else 0⟩):=rfl;generalize qS n v=ans at *;obtain⟨nk,ns,nv,np⟩:=n;obtain⟨vk,vs,vv,vp⟩:=v;simp only[XW]at *;by_cases k1:vk=3
 ·rw[tm k1]at HA
  subst k1
  go_enter Tryz.func85,Tryz.ntmps85
  go_wp2_with fail
  refine pb (v:=dU ⟨ns,true,vv⟩) (results_cell_row Tryz.results85 _ _ (w.heap.size+1+1) 200 #[.string ⟨ns.toArray⟩,.bool true,.int .i64 vv] (0,0) _ rfl (by repeat (with_reducible first|(refine yW _ _ _ ?_;simp;done)|refine zU ?_)) Tryz.underlying200 rfl JT) rfl ⟨by rw[HA.out],(((fj (j1 _) _).alloc (by simp) _).alloc (by simp;omega) _)⟩
 ·rw[tb k1]at HA
  have b1:(vk==3)=false:=by simpa using k1
  clear k1;by_cases k2:vs=[121,101,115]
  ·rw[tm k2]at HA
   have b2:(vs==[121,101,115])=true:=by simpa using k2
   clear k2
   go_enter Tryz.func85,Tryz.ntmps85
   go_wp2_with fail
   refine pb (v:=dU ⟨ns,false,1⟩) (results_cell_row Tryz.results85 _ _ (w.heap.size+1+1) 200 #[.string ⟨ns.toArray⟩,.bool false,.int .i64 1] (0,0) _ rfl (by repeat (with_reducible first|(refine yW _ _ _ ?_;simp;done)|refine zU ?_)) Tryz.underlying200 rfl JT) rfl ⟨by rw[HA.out],((((fj (j1 _) _).alloc (by simp) _).alloc (by simp;omega) _).alloc (by simp;omega) _)⟩
  ·rw[tb k2]at HA
   have b2:(vs==[121,101,115])=false:=by simpa using k2
   clear k2
   go_enter Tryz.func85,Tryz.ntmps85
   go_wp2_with fail
   refine pb (v:=dU ⟨ns,false,0⟩) (results_cell_row Tryz.results85 _ _ (w.heap.size+1+1) 200 #[.string ⟨ns.toArray⟩,.bool false,.int .i64 0] (0,0) _ rfl (by repeat (with_reducible first|(refine yW _ _ _ ?_;simp;done)|refine zU ?_)) Tryz.underlying200 rfl JT) rfl ⟨by rw[HA.out],((((fj (j1 _) _).alloc (by simp) _).alloc (by simp;omega) _).alloc (by simp;omega) _)⟩
def Uc(t:PT)(i:Nat):Bool :=
 if i%4=0 then decide (t.k=2) else if i%4=1 then decide (t.k=4)&&decide (t.s=[61])
 else if i%4=2 then decide (t.k=3) || nZ t else decide (t.k=4)&&decide (t.s=[59])
def nE(P:List PT):Nat->Nat->Bool
 | 0,_=>false
 | n+1,i=>if i%4=0/\(yM P i).k=0 then true else Uc (yM P i) i&&nE P n (i+1)
def cX(P:List PT):Bool:=nE P P.length 0
def tI(P:List PT)(I:List zP):Nat->Nat->List Int × List Bool->Option (List Int × List Bool)
 | 0,_,st=>some st
 | n+1,i,st =>
   if i*4+4<P.length then
    (if zI (I.map zP.name) (qS (yM P (i*4)) (yM P (i*4+2))).name<0 then none
     else if st.2.getD (zI (I.map zP.name) (qS (yM P (i*4)) (yM P (i*4+2))).name).toNat false=true then none
     else if bI (qS (yM P (i*4)) (yM P (i*4+2))) (I.getD (zI (I.map zP.name) (qS (yM P (i*4)) (yM P (i*4+2))).name).toNat eX)=false then none
     else tI P I n (i+1) (st.1.set (zI (I.map zP.name) (qS (yM P (i*4)) (yM P (i*4+2))).name).toNat (qS (yM P (i*4)) (yM P (i*4+2))).value,st.2.set (zI (I.map zP.name) (qS (yM P (i*4)) (yM P (i*4+2))).name).toNat true))
   else some st
def xD(I:List zP)(f:Bs):List Int × Int :=
 if 300<f.length then ([],1)
 else if cX (lY f)=false then ([],2)
 else match tI (lY f) I (lY f).length 0 (List.replicate I.length 0,List.replicate I.length false) with
  | none=>([],10)
  | some st=>if st.2.all id then (st.1,0) else ([],10)
def Qg(f:Bs)(i:Nat):Jm:=qS (yM (lY f) (i*4)) (yM (lY f) (i*4+2))
def jM(I:List zP)(f:Bs)(i:Nat):Int:=zI (I.map zP.name) (Qg f i).name
def jc(I:List zP)(f:Bs)(i:Nat):Prop:=bI (Qg f i) (I.getD (jM I f i).toNat eX)=true
theorem KB{α:Type}(l:List α)(i j:Nat)(x d:α)(hi:i<l.length):(l.set i x).getD j d=if j=i then x else l.getD j d:=by
 unfold List.getD;rw[List.getElem?_set];by_cases h:i=j
 ·subst h;simp[hi]
 ·rw[tb h,tb (fun e=>h e.symm)]
structure Kf(I:List zP)(f:Bs)(i:Nat)(st:List Int × List Bool):Prop where
 l1:st.1.length=I.length
 l2:st.2.length=I.length
 giv:∀j,j<I.length->(st.2.getD j false=true ↔ bS (jM I f) j i=1)/\bS (jM I f) j i<=1
 val:∀(k j:Nat),k<i->jM I f k=(j:Int)->st.1.getD j 0=(Qg f k).value
 ok:∀k,k<i->0<=jM I f k/\jc I f k
theorem zH0(I:List zP)(f:Bs)(i:Nat):jM I f i<I.length:=by have:=jS (I.map zP.name) (Qg f i).name;unfold jM;simpa using this.2
def DB(I:List zP)(f:Bs)(m:Nat):Prop:=(∀k,k<m->0<=jM I f k/\jc I f k)/\∀j,j<I.length->bS (jM I f) j m=1
theorem xx(I:List zP)(f:Bs)(m:Nat)(hm:(vK f 0).length=4*m):∀n i st,m+1<=n+i->i<=m->Kf I f i st ->
 (∃st',tI (lY f) I n i st=some st'/\Kf I f m st')\/(tI (lY f) I n i st=none/\¬DB I f m):=by
 have hl:=lG f;intro n
 induction n with
 | zero=>intro i st h1 h2;omega
 | succ n ih =>
   intro i st h1 h2 zKT;rw[tI];by_cases zK4:i<m
   ·rw[tm (by omega)]
    have hpl:=zH0 I f i;by_cases k1:jM I f i<0
    ·refine .inr ⟨tm k1,fun hh=>?_⟩
     have:=(hh.1 i zK4).1;omega
    ·by_cases k2:st.2.getD (jM I f i).toNat false=true
     ·refine .inr ⟨(tb k1).trans (tm k2),fun hh=>?_⟩
      have h3:=((zKT.giv (jM I f i).toNat (by omega)).1).1 k2;have h4:=hh.2 (jM I f i).toNat (by omega);have h5:bS (jM I f) (jM I f i).toNat (i+1)<=bS (jM I f) (jM I f i).toNat m:=VP _ _ (by omega);rw[bS,tm (by omega)]at h5;omega
     ·by_cases k3:bI (Qg f i) (I.getD (jM I f i).toNat eX)=false
      ·refine .inr ⟨(tb k1).trans ((tb k2).trans (tm k3)),fun hh=>?_⟩
       have:=(hh.1 i zK4).2;unfold jc at this;rw[k3]at this;cases this
      ·have hc0:bS (jM I f) (jM I f i).toNat i=0:=by
        have a:=zKT.giv (jM I f i).toNat (by omega);have b:¬bS (jM I f) (jM I f i).toNat i=1:=fun e=>k2 (a.1.2 e);have:=a.2;omega
       have hnext:Kf I f (i+1) (st.1.set (jM I f i).toNat (Qg f i).value,st.2.set (jM I f i).toNat true):=by
        refine⟨by simp[zKT.l1],by simp[zKT.l2],fun j hj=>?_,fun k j hk hkj=>?_,fun k hk=>?_⟩
        ·have h9:=zKT.giv j hj
         simp only;rw[KB _ _ _ _ _ (by rw[zKT.l2];omega),bS];by_cases e:j=(jM I f i).toNat
         ·rw[tm e,tm (by omega),e,hc0];simp
         ·rw[tb e,tb (by omega)];exact h9
        ·simp only
         rw[KB _ _ _ _ _ (by rw[zKT.l1];omega)];rcases mc k i with h7|h7
         ·by_cases e:j=(jM I f i).toNat
          ·exfalso
           have:1<=bS (jM I f) j i:=by
            have h8:bS (jM I f) j (k+1)<=bS (jM I f) j i:=VP _ _ (by omega);rw[bS,tm hkj]at h8;omega
           rw[e]at this;omega
          ·rw[tb e];exact zKT.val k j h7 hkj
         ·obtain rfl:k=i:=by omega
          rw[tm (by omega)]
        ·rcases mc k i with h7|h7
         ·exact zKT.ok k h7
         ·obtain rfl:k=i:=by omega
          exact⟨by omega,by unfold jc;cases hx:bI (Qg f k) (I.getD (jM I f k).toNat eX) with|true=>rfl|false=>exact absurd hx k3⟩
       have:=ih (i+1) _ (by omega) (by omega) hnext;rcases this with ⟨st',e1,e2⟩|⟨e1,e2⟩
       ·exact .inl ⟨st',(tb k1).trans ((tb k2).trans ((tb k3).trans e1)),e2⟩
       ·exact .inr ⟨(tb k1).trans ((tb k2).trans ((tb k3).trans e1)),e2⟩
   ·obtain rfl:i=m:=by omega
    rw[tb (by omega)];exact .inl ⟨st,rfl,zKT⟩
theorem zIK(l:List Bool):l.all id=true ↔ ∀j,j<l.length->l.getD j false=true:=by
 rw[List.all_eq_true];constructor
 ·intro h j hj;have:=h (l.getD j false) (by simp[List.getD,hj]);simpa using this
 ·intro h x hx
  obtain⟨j,hj,rfl⟩:=ct hx;have:=h j hj;simpa[List.getD,hj] using this
theorem xy(I:List zP)(f:Bs)(m:Nat)(hm:(vK f 0).length=4*m) :
 (DB I f m->∃L,(match tI (lY f) I (lY f).length 0 (List.replicate I.length 0,List.replicate I.length false) with|none=>(([],10):List Int × Int)|some st=>if st.2.all id then (st.1,0) else ([],10))=(L,0)/\L.length=I.length/\∀(k j:Nat),k<m->jM I f k=(j:Int)->L.getD j 0=(Qg f k).value) /\
 (¬DB I f m->(match tI (lY f) I (lY f).length 0 (List.replicate I.length 0,List.replicate I.length false) with|none=>(([],10):List Int × Int)|some st=>if st.2.all id then (st.1,0) else ([],10))=([],10)):=by
 have hl:=lG f
 have h0:Kf I f 0 (List.replicate I.length 0,List.replicate I.length false):=by
  refine⟨by simp,by simp,fun j hj=>?_,fun k j hk=>by omega,fun k hk=>by omega⟩;simp[bS,List.getD,hj]
 rcases xx I f m hm (lY f).length 0 _ (by omega) (ty _) h0 with ⟨st,e1,e2⟩|⟨e1,e2⟩
 ·rw[e1]
  simp only
  have hall:st.2.all id=true ↔ ∀j,j<I.length->bS (jM I f) j m=1:=by
   rw[zIK,e2.l2];exact⟨fun h j hj=>(e2.giv j hj).1.1 (h j hj),fun h j hj=>(e2.giv j hj).1.2 (h j hj)⟩
  constructor
  ·intro hg
   rw[tm (hall.2 hg.2)];exact⟨st.1,rfl,e2.l1,e2.val⟩
  ·intro hg
   rw[tb (fun h=>hg ⟨e2.ok,hall.1 h⟩)]
 ·rw[e1]
  exact⟨fun hg=>absurd hg e2,fun _=>rfl⟩
theorem Xk(h:vJ ls):(uC ls).Nodup:=by
 have key:∀n,n<=ls.length->(uC (ls.take n)).Nodup:=by
  intro n
  induction n with
  | zero=>intro _;simp[uC,zR,cR]
  | succ n ih =>
    intro hn;have ih:=ih (by omega);rw[oU,bJ ls n (by omega),dk,bg];rw[oU]at ih;by_cases hk:(lA ls n).kind=1\/(lA ls n).kind=2
    ·rw[List.filter_cons_of_pos (by simpa using hk),dy,List.nodup_append]
     refine⟨ih,by simp,fun a ha b hb=>?_⟩;simp only[dq,List.map_nil,pw]at hb;subst hb;intro e;subst e;have hm:=(YX (ls.take n) (lA ls n).name).1 (by rw[oU];exact ha);have he:=h.err n (by omega)
     have zKF:oV ls n=0:=by
      unfold lB at he;rcases hk with k|k
      ·rw[tm k]at he
       unfold wX at he;by_cases h0:oV ls n=0
       ·exact h0
       ·rw[tb h0]at he;exact he
      ·rw[tb (by omega),tm k]at he;exact he
     unfold oV at zKF;rcases hm with hm|hm
     ·rw[hm,fg,tm rfl]at zKF;exact absurd zKF (by decide)
     ·rw[hm,fg,Bool.or_true,tm rfl]at zKF;exact absurd zKF (by decide)
    ·rw[List.filter_cons_of_neg (by simpa using hk),dy];simpa using ih
 have:=key ls.length (j1 _)
 rwa [bt]at this
theorem Xt{α β:Type}(f:α->β)(l:List α)(j:Nat)(d:α)(d':β)(h:j<l.length):(l.map f).getD j d'=f (l.getD j d):=by simp[List.getD,h]
def GM(ls:List zE):List zE:=ls.filter fun x=>decide (x.kind=1\/x.kind=2)
theorem JL(h:x∈GM ls):x.kind=1\/x.kind=2:=cb (mj.1 h).2
theorem Xo(ls:List zE):uC ls=(GM ls).map zE.name:=oU ls
theorem Xm(ls:List zE):zR ls=(GM ls).map mC:=by unfold zR;rw[Xl,di];rfl
end Go.Proofs.YtnbpdffdnphbeabGreatDoor
