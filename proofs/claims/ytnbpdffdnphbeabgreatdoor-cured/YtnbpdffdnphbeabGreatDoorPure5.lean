import Derived.Test.YtnbpdffdnphbeabGreatDoorPWeight
namespace Go.Proofs.YtnbpdffdnphbeabGreatDoor
variable{i:Nat}{a:Nat × Bs}{s:St}{ts v:zT}(P:List PT)(n:Nat)(m:Bool)
def cU:Bs:=[112,97,114,116]
def oW:Bs:=[112,97,114,116,101,100]
def dU:Bs:=[99,111,117,110,116,101,100]
def x9:Bs:=[116,105,109,101,115]
theorem Bd:kO cU=[xP,xR]:=by decide
theorem J0:kO oW=[[43],[45],xC]:=by decide
theorem XP:kO dU=[[42],[43],[45],xC]:=by decide
theorem KN:kO x9=[xP]:=by decide
abbrev J5(c:Bs):Prop:=c≠uX/\c≠xC
def zB9(x:yQ)(v:zT):Prop :=
 (∃a b c,v=[a,b,c]/\zZ a.2=xR/\zZ b.2=[42]/\zZ c.2=xP/\c.2≠[]/\x.starred=true/\x.num=qA 0 a.2/\x.name=c.2) \/
 (∃a,v=[a]/\zZ a.2=xR/\x.starred=false/\x.num=qA 0 a.2/\x.name=[]) \/
 (∃a,v=[a]/\zZ a.2=xP/\a.2≠[]/\x.starred=false/\x.num=0/\x.name=a.2)
def zB0:Bool->List yQ->zT->Prop
 | _,[],_=>False
 | m,x::r,v=>x.minus=m/\((r=[]/\zB9 x v)\/∃v1 t v2,v=v1++t::v2/\zB9 x v1/\((zZ t.2=[45]/\zB0 true r v2)\/(zZ t.2=[43]/\zB0 false r v2)))
def zF9(ts:zT)(len i:Nat)(m:Bool)(r:yQ × St):Prop :=
 (r.2.2=true/\FA ts len i cU 0=((yT (pp ts len) r.2.1).p:Int)) \/
 (r.2.2=false/\i<r.2.1/\r.2.1<=ts.length/\(∃st,(st=oW\/st=dU/\cA ts r.2.1≠[42])/\FA ts len i cU 0=FA ts len r.2.1 st 0)/\r.1.minus=m/\(0<=r.1.num/\r.1.num<=9999) /\
  ∃v,ts.drop i=v++ts.drop r.2.1/\0<v.length/\(∀t∈v,J5 (zZ t.2))/\(∀st,Cu r.1 st=kC v st)/\XW v [r.1]/\zB9 r.1 v)
theorem Uy{b c:Nat × Bs}(ha:zZ a.2=xR)(hb:zZ b.2=[42])(hc:zZ c.2=xP)(hn:c.2≠[])(m:Bool):XW [a,b,c] [⟨m,true,qA 0 a.2,c.2⟩]:=by
 refine⟨?_,?_,?_,?_⟩
 ·simp only[gY,ha,hb,hc]
  rw[tj (by decide),tj (by decide),tr trivial];simp[KF,hn]
 ·simp only[dD,ha,hb,hc]
  rw[tj (by decide),tj (by decide),tj (by decide)];rfl
 ·intro p
  simp only[rY,ha,hb,hc];rw[tu (by decide:¬xR=[42]),tu (by decide:¬xP=[42])];simp[qT]
 ·intro k hk h
  have:k=0\/k=1\/k=2:=by simp at hk;omega
  rcases this with rfl|rfl|rfl
  ·exact absurd (ha.symm.trans h) (by decide)
  ·exact⟨by decide,ha⟩
  ·exact absurd (hc.symm.trans h) (by decide)
theorem yq(ha:zZ a.2=xR)(m:Bool):XW [a] [⟨m,false,qA 0 a.2,[]⟩]:=by
 refine⟨?_,?_,?_,?_⟩
 ·simp only[gY,ha];rw[tj (by decide)];simp[KF]
 ·simp only[dD,ha];rw[tj (by decide)];rfl
 ·intro p;simp only[rY,ha];rw[tu (by decide:¬xR=[42])];simp[qT]
 ·intro k hk h
  obtain rfl:k=0:=by simp at hk;exact hk
  exact absurd (ha.symm.trans h) (by decide)
theorem DK(ha:zZ a.2=xP)(hn:a.2≠[])(m:Bool):XW [a] [⟨m,false,0,a.2⟩]:=by
 refine⟨?_,?_,?_,?_⟩
 ·simp only[gY,ha];rw[tr trivial];simp[KF,hn]
 ·simp only[dD,ha];rw[tj (by decide)];rfl
 ·intro p;simp only[rY,ha];rw[tu (by decide:¬xP=[42])];simp[qT]
 ·intro k hk h
  obtain rfl:k=0:=by simp at hk;exact hk
  exact absurd (ha.symm.trans h) (by decide)
theorem zDK(zK5:gQ ts)(hi:i<ts.length):(tA ts i).isEmpty=false:=by
 have:=(zK5.at' hi).1
 cases hx:tA ts i with
 | nil=>exact absurd hx this
 | cons a b=>rfl
theorem vl{len:Nat}(zK5:gQ ts)(h:i<=ts.length)(m:Bool):zF9 ts len i m (vM (pp ts len) m (i,false)):=by
 rcases eK (len:=len) h with ⟨hc,hi,e⟩|⟨hc,e⟩
 ·have e0:=Yf (len:=len) h false
  rw[ty hc]at e0;obtain⟨v1,v2⟩:=Jy (zK5.at' hi) hc;have hf:FA ts len i cU 0=FA ts len (i+1) dU 0:=uG hi hc rfl (by decide) rfl;rcases lW (len:=len) (show i+1<=ts.length from hi) (t:=[42]) (by decide) with ⟨hc2,hi2,e2⟩|⟨hc2,e2⟩
  ·have hw:=(lP (by decide) hc2).2
   have hf2:FA ts len i cU 0=FA ts len (i+1+1) x9 0:=hf.trans (uG hi2 hc2 rfl (by decide) rfl);rcases cC (len:=len) (show i+1+1<=ts.length from hi2) with ⟨hc3,hi3,e3⟩|⟨hc3,e3⟩
   ·have e':vM (pp ts len) m (i,false)=(⟨m,true,qA 0 (tA ts i),tA ts (i+1+1)⟩,(i+1+1+1,false)):=by
     simp only[vM,e0,e,e2,e3]
    rw[e'];refine .inr ⟨rfl,(by show i<i+1+1+1;omega),hi3,⟨oW,.inl rfl,hf2.trans (uG hi3 hc3 rfl (by decide) rfl)⟩,rfl,v1,[TT ts i,TT ts (i+1),TT ts (i+1+1)],?_,by simp,?_,?_,Uy hc hc2 hc3 (zK5.at' hi3).1 m,.inl ⟨_,_,_,rfl,hc,hc2,hc3,(zK5.at' hi3).1,rfl,rfl,rfl⟩⟩
    ·rw[zL ts i hi,zL ts (i+1) hi2,zL ts (i+1+1) hi3];rfl
    ·intro t ht
     simp only[pf,lu,dc]at ht;rcases ht with rfl|rfl|rfl
     ·show J5 (cA ts i);rw[hc];decide
     ·show J5 (cA ts (i+1));rw[hc2];decide
     ·show J5 (cA ts (i+1+1));rw[hc3];decide
    ·intro st
     show yN (tA ts (i+1+1)) (yN [42] (sL (qA 0 (tA ts i)) st))=yN (tA ts (i+1+1)) (yN (tA ts (i+1)) (yN (tA ts i) st));rw[sL,v2,hw]
   ·have e':(vM (pp ts len) m (i,false)).2=(i+1+1,true):=by
     simp only[vM,e0,e,e2,e3]
    refine .inl ⟨by rw[e'],?_⟩;rw[e',hf2];exact dO hi2 (pQ (by decide) (by decide) (by rw[KN];simpa using hc3)) (.inr (by decide))
  ·have e':vM (pp ts len) m (i,false)=(⟨m,false,qA 0 (tA ts i),[]⟩,(i+1,false)):=by
    simp only[vM,e0,e,e2]
   rw[e'];refine .inr ⟨rfl,(by show i<i+1;omega),hi,⟨dU,.inr ⟨rfl,hc2⟩,hf⟩,rfl,v1,[TT ts i],zL ts i hi,by simp,?_,?_,yq hc m,.inr (.inl ⟨_,rfl,hc,rfl,rfl,rfl⟩)⟩
   ·intro t ht;obtain rfl:=pr.1 ht
    show J5 (cA ts i);rw[hc];decide
   ·intro st
    show sL (qA 0 (tA ts i)) st=yN (tA ts i) st;rw[sL,v2]
 ·have e0:=Yf (len:=len) h false
  rw[tu hc]at e0;rcases cC (len:=len) h with ⟨hc3,hi3,e3⟩|⟨hc3,e3⟩
  ·have e':vM (pp ts len) m (i,false)=(⟨m,false,0,tA ts i⟩,(i+1,false)):=by
    simp only[vM,e0,e3]
   rw[e'];refine .inr ⟨rfl,(by show i<i+1;omega),hi3,⟨oW,.inl rfl,uG hi3 hc3 rfl (by decide) rfl⟩,rfl,by simp,[TT ts i],zL ts i hi3,by simp,?_,?_,DK hc3 (zK5.at' hi3).1 m,.inr (.inr ⟨_,rfl,hc3,(zK5.at' hi3).1,rfl,rfl,rfl⟩)⟩
   ·intro t ht;obtain rfl:=pr.1 ht
    show J5 (cA ts i);rw[hc3];decide
   ·intro st
    show Cu ⟨m,false,0,tA ts i⟩ st=yN (tA ts i) st;simp only[Cu,zDK zK5 hi3]
  ·have e':(vM (pp ts len) m (i,false)).2=(i,true):=by
    simp only[vM,e0,e3]
   refine .inl ⟨by rw[e'],?_⟩;rw[e'];exact dO h (pQ (by decide) (by decide) (by rw[Bd];simp[hc,hc3])) (.inr (by decide))
theorem zGX(i:Nat):(vM P m (i,true)).2=(i,true):=by
 unfold vM;split <;> rfl
theorem zIY(i:Nat)(ps:List yQ):(jF P n m (i,true) ps).2=(i,true):=by
 cases n with
 | zero=>rfl
 | succ n =>
   rw[jF,zGX];rfl
def zIA(ts:zT)(len i:Nat)(m:Bool)(ps:List yQ)(r:List yQ × St):Prop :=
 (r.2.2=true/\FA ts len i cU 0=((yT (pp ts len) r.2.1).p:Int)) \/
 (r.2.2=false/\i<r.2.1/\r.2.1<=ts.length/\(cA ts r.2.1=xC->FA ts len i cU 0=FA ts len (r.2.1+1) mR 0)/\(cA ts r.2.1≠xC->FA ts len i cU 0=((yT (pp ts len) r.2.1).p:Int)) /\
  ∃new v,r.1=ps++new/\0<new.length/\new.length<=v.length/\(∀y∈new,0<=y.num/\y.num<=9999)/\ts.drop i=v++ts.drop r.2.1/\(∀t∈v,J5 (zZ t.2)) /\
   (∀k st,Zo new k st=kC v (Ct m k st))/\XW v new/\zB0 m new v)
theorem yi{st:Bs}{c:Bs}(h:st=oW\/st=dU)(hc:c=[45]\/c=[43]):uB st c 0=cU/\opn c 0=0:=by
 rcases h with rfl|rfl <;> rcases hc with rfl|rfl <;> exact⟨rfl,rfl⟩
theorem zCJ{len:Nat}(zK5:gQ ts)(n:Nat):∀(i:Nat) (m:Bool) (ps:List yQ),i<=ts.length->ts.length+1-i<=n->zIA ts len i m ps (jF (pp ts len) n m (i,false) ps):=by
 induction n with
 | zero=>intro i m ps h1 h2;omega
 | succ n ih =>
   intro i m ps hi hn;rw[jF];have hP:=vl (len:=len) zK5 hi m;generalize vM (pp ts len) m (i,false)=r at hP ⊢;obtain⟨y,⟨j,f⟩⟩:=r;rcases hP with ⟨h1,h2⟩|⟨h1,h2,h3,⟨st,hst,h4⟩,h5,h6,v,h7,h8,h9,h10,hT,hPT⟩
   ·simp only at h1;subst h1
    exact .inl ⟨rfl,h2⟩
   ·simp only at h1 h2 h3 hst h4 h5 h6 h7 h10;subst h1
    have hst':st=oW\/st=dU:=by rcases hst with h|h;exact .inl h;exact .inr h.1
    have hsd:st≠mU/\st≠pP/\st≠tO:=by rcases hst' with rfl|rfl <;> decide
    rcases lW (len:=len) h3 (t:=[45]) (by decide) with ⟨hc,hj,e⟩|⟨hc,e⟩
    ·simp only[e]
     have hw:=(lP (by decide) hc).2;obtain⟨n1,n2⟩:=yi hst' (.inl rfl);have hf:FA ts len i cU 0=FA ts len (j+1) cU 0:=h4.trans (uG hj hc n1 (by decide) n2);have hI:=ih (j+1) true (ps++[y]) hj (by omega);generalize jF (pp ts len) n true (j+1,false) (ps++[y])=r at hI ⊢;rcases hI with ⟨g1,g2⟩|⟨g1,g2,g3,g4,g5,new,v',g6,g7,g8,g9,g10,g11,g12,gT,gS⟩
     ·exact .inl ⟨g1,by rw[hf];exact g2⟩
     ·refine .inr ⟨g1,by omega,g3,fun h=>hf.trans (g4 h),fun h=>by rw[hf];exact g5 h,y::new,v++TT ts j::v',by rw[g6];simp,by simp,by simp;omega,?_,?_,?_,?_,?_⟩
      ·intro z hz
       rcases pf.1 hz with rfl|hz
       ·exact h6
       ·exact g9 z hz
      ·rw[h7,zL ts j hj,g10];simp
      ·intro t ht
       rcases ph.1 ht with ht|ht
       ·exact h9 t ht
       ·rcases pf.1 ht with rfl|ht
        ·show J5 (cA ts j);rw[hc];decide
        ·exact g11 t ht
      ·intro k st
       rw[Zo,g12,h10,h5,sV,kC];show kC v' (yN [45] _)=kC v' (yN (tA ts j) _);rw[hw]
      ·exact⟨hT.join gT (.inr hc),h5,.inr ⟨v,TT ts j,v',rfl,hPT,.inl ⟨hc,gS⟩⟩⟩
    ·simp only[e]
     rcases lW (len:=len) h3 (t:=[43]) (by decide) with ⟨hc2,hj,e2⟩|⟨hc2,e2⟩
     ·simp only[e2]
      have hw:=(lP (by decide) hc2).2;obtain⟨n1,n2⟩:=yi hst' (.inr rfl);have hf:FA ts len i cU 0=FA ts len (j+1) cU 0:=h4.trans (uG hj hc2 n1 (by decide) n2);have hI:=ih (j+1) false (ps++[y]) hj (by omega);generalize jF (pp ts len) n false (j+1,false) (ps++[y])=r at hI ⊢;rcases hI with ⟨g1,g2⟩|⟨g1,g2,g3,g4,g5,new,v',g6,g7,g8,g9,g10,g11,g12,gT,gS⟩
      ·exact .inl ⟨g1,by rw[hf];exact g2⟩
      ·refine .inr ⟨g1,by omega,g3,fun h=>hf.trans (g4 h),fun h=>by rw[hf];exact g5 h,y::new,v++TT ts j::v',by rw[g6];simp,by simp,by simp;omega,?_,?_,?_,?_,?_⟩
       ·intro z hz
        rcases pf.1 hz with rfl|hz
        ·exact h6
        ·exact g9 z hz
       ·rw[h7,zL ts j hj,g10];simp
       ·intro t ht
        rcases ph.1 ht with ht|ht
        ·exact h9 t ht
        ·rcases pf.1 ht with rfl|ht
         ·show J5 (cA ts j);rw[hc2];decide
         ·exact g11 t ht
       ·intro k st
        rw[Zo,g12,h10,h5,sV,kC];show kC v' (Ct false (k+1) _)=kC v' (yN (tA ts j) _);rw[hw,Ct,tr (by omega)]
       ·exact⟨hT.join gT (.inl hc2),h5,.inr ⟨v,TT ts j,v',rfl,hPT,.inr ⟨hc2,gS⟩⟩⟩
     ·simp only[e2]
      refine .inr ⟨rfl,h2,h3,?_,?_,[y],v,rfl,by simp,by simp;omega,?_,h7,h9,?_,hT,h5,.inl ⟨rfl,hPT⟩⟩
      ·intro h
       have hj:=(lP (by decide) h).1;have hx:uB st xC 0=mR:=by rcases hst' with rfl|rfl <;> rfl
       exact h4.trans (uG hj h hx (by decide) rfl)
      ·intro h
       rw[h4];refine dO h3 (pQ hsd.1 hsd.2.1 ?_) (.inr hsd.2.2);rcases hst with rfl|⟨rfl,hs⟩
       ·rw[J0];simp[hc,hc2,h]
       ·rw[XP];simp[hc,hc2,h,hs]
      ·intro z hz;obtain rfl:=pr.1 hz;exact h6
      ·intro k st
       rw[Zo,Zo,h10,h5]
theorem zGE(i:Nat):(yZ P (i,true)).2=(i,true):=by
 simp only[yZ,U1,Bm,zAD,List.isEmpty_nil]
theorem zHS(q:GS)(d:Int)(h:q.s.2=true):(yJ P n q d).2.s=q.s:=by
 cases n with
 | zero=>rfl
 | succ n =>
   obtain⟨⟨i,f⟩,nd,te,de⟩:=q;obtain rfl:f=true:=h;rw[yJ,U1];simp only[U1];show (yZ P (i,true)).2=(i,true);rw[zGE]
theorem zEF(i:Nat):(vL P (i,true)).2.s=(i,true):=by
 unfold vL wF bJ qZ;have h1:(yJ P P.length ⟨(i,true),[],0,0⟩ 0).2.s=(i,true):=zHS P P.length ⟨(i,true),[],0,0⟩ 0 rfl;generalize yJ P P.length ⟨(i,true),[],0,0⟩ 0=y at h1 ⊢;have h2:(kQ P (fun q=>yJ P P.length q 0) xT 2 P.length y.1 y.2).2.s=(i,true):=(pS _ _ _ _ _ _ _ (by rw[h1])).trans h1;generalize kQ P (fun q=>yJ P P.length q 0) xT 2 P.length y.1 y.2=z at h2 ⊢;exact(pS _ _ _ _ _ _ _ (by rw[h2])).trans h2
theorem kI{P:List PT}{t:Bs}(h:s=(i,true)):zP P t s=(i,true):=by subst h;rfl
theorem CF{P:List PT}(h:s=(i,true)):(zG P s).2=(i,true):=by subst h;rfl
theorem Jg{P:List PT}(h:s=(i,true)):(kZ P s).2=(i,true):=by subst h;exact zIY _ _ _ _ _
theorem fF{P:List PT}(h:s=(i,true)):(vL P s).2.s=(i,true):=by subst h;exact zEF _ _
theorem qC{len j:Nat}{v:Int}(h:s=(j,true))(hv:v=((yT (pp ts len) j).p:Int))(hi:FA ts len i tO 0=v):s.2=true/\FA ts len i tO 0=((yT (pp ts len) s.1).p:Int):=by
 subst h;exact⟨rfl,hi.trans hv⟩
def B2:Bs:=[110,117,109]
def CV:Bs:=[102,108,97,103]
def iB:Bs:=[111,118,101,114]
def Jn:Bs:=[101,110,100]
def Qp:Bs:=[108,97,115,116]
def xj:Bs:=[102,114,111,109]
def sTo:Bs:=[116,111]
def xd:Bs:=[116,105,108,108]
def U7:Bs:=[108,97,98,101,108]
def U8:Bs:=[99,111,108,111,110]
def xg:Bs:=[104,101,97,100]
theorem Be:kO tO=[B2,CV,iB,jZ]:=by decide
structure zB6(x:zE)(u:zT)(w:Nat):Prop where
 whenAt:Qb u 0=some w
 wlo:5<w
 whi:w+1<u.length
 conc:tA u 3=x.conc
 ne:x.conc≠[]
 parts:dD (u.take w)+1=x.sum.length
 big:rY [] (u.take w)=x.sum.any qT
 stars:∀k,k<w->cA u k=[42]->0<k/\cA u (k-1)=xR
 needs:gY ((u.take w).drop 5)=x.sum.flatMap KF
 needs2:kP xC (u.drop (w+1)) []=mW x.nd
 wt:rZ (u.drop (w+1)) (x.tests,x.dep)
 good:∀n,u.length<n->pC n (u.drop (w+1))=true
 sums:zB0 false x.sum ((u.take w).drop 5)
 gr:∃k y,Gr k (u.drop (w+1)) y x.nd x.root
structure LT(x:zE)(u:zT):Prop where
 two:2<=u.length
 toks:gQ u
 name:tA u 1=x.name
 kind:(x.kind=1/\cA u 0=B2/\5<=u.length/\cA u 2=xR/\cA u 4=xR/\qA 0 (tA u 2)=x.low/\qA 0 (tA u 4)=x.high)\/(x.kind=2/\cA u 0=CV) \/
  (x.kind=4/\cA u 0=iB/\3<=u.length/\tA u 2=x.lower)\/(x.kind=3/\cA u 0=jZ/\∃w,zB6 x u w)
theorem gQ.get(h:gQ ts)(hi:i<ts.length):VW (TT ts i).2:=h.at' hi
def iT(ts:zT)(len i:Nat)(r:zE × St):Prop :=
 (r.2.2=true/\FA ts len i tO 0=((yT (pp ts len) r.2.1).p:Int)) \/
 (r.2.2=false/\i<r.2.1/\r.2.1<=ts.length/\FA ts len i tO 0=FA ts len r.2.1 tO 0/\oT r.1 /\
  ∃u e,ts.drop i=u++e::ts.drop r.2.1/\zZ e.2=uX/\(∀t∈u,zZ t.2≠uX) /\
   LT r.1 u/\∀n,ts.length<n->Vv n u/\∀out,Qc r.1 (out,false)=(out++mK n u++[59,10],false))
theorem Ks(s:Bs)(out:Bs):sM (yN s (out,false))=(out++s++[59,10],false):=rfl
theorem sX{n:Nat}{x:zE}{u:zT}(hu:u≠[])(hr:zZ (u.getD 0 (0,[])).2≠jZ)(hw:∀st,Qc x st=sM (kC u st)) :
 Vv n u/\∀out,Qc x (out,false)=(out++mK n u++[59,10],false):=by
 refine⟨⟨List.length_pos_iff.2 hu,fun h=>absurd h hr⟩,fun out=>?_⟩;rw[hw,fU hu,Ks,mK,tj hr]
theorem iL{len:Nat}{st t:Bs}(h0:i<=ts.length)(h1:st≠mU/\st≠pP/\st≠tO)(h2:kO st=[t])(hc:cA ts i≠t):FA ts len i st 0=((yT (pp ts len) i).p:Int) :=
 dO h0 (pQ h1.1 h1.2.1 (by rw[h2];simpa using hc)) (.inr h1.2.2)
theorem Un(a:Nat)(h:a<([]:List yQ).length):0<=(ZI [] a).num/\(ZI [] a).num<=9999:=absurd h (by simp)
theorem vx{len:Nat}(zK5:gQ ts)(hi:i<ts.length)(hc:cA ts i=B2):iT ts len i (qU (pp ts len) (i+1,false)):=by
 have hf:FA ts len i tO 0=FA ts len (i+1) B2 0:=uG hi hc rfl (by decide) rfl;rcases cC (len:=len) (show i+1<=ts.length from hi) with ⟨c1,i1,e1⟩|⟨c1,e1⟩
 ·have f1:=hf.trans (uG i1 c1 (show uB B2 xP 0=xj from rfl) (by decide) rfl)
  rcases eK (len:=len) (show i+1+1<=ts.length from i1) with ⟨c2,i2,e2⟩|⟨c2,e2⟩
  ·have f2:=f1.trans (uG i2 c2 (show uB xj xR 0=sTo from rfl) (by decide) rfl)
   obtain⟨v1,v2⟩:=Jy (zK5.at' i2) c2;rcases dJ (len:=len) (t:=[46,46]) (show i+1+1+1<=ts.length from i2) (by decide) with ⟨c3,i3,e3⟩|⟨c3,e3⟩
   ·have f3:=f2.trans (uG i3 c3 (show uB sTo [46,46] 0=xd from rfl) (by decide) rfl)
    have w3:=(lP (by decide) c3).2;rcases eK (len:=len) (show i+1+1+1+1<=ts.length from i3) with ⟨c4,i4,e4⟩|⟨c4,e4⟩
    ·have f4:=f3.trans (uG i4 c4 (show uB xd xR 0=Jn from rfl) (by decide) rfl)
     obtain⟨v3,v4⟩:=Jy (zK5.at' i4) c4;rcases dJ (len:=len) (t:=[59]) (show i+1+1+1+1+1<=ts.length from i4) (by decide) with ⟨c5,i5,e5⟩|⟨c5,e5⟩
     ·have f5:=f4.trans (uG i5 c5 (show uB Jn [59] 0=tO from rfl) (by decide) rfl)
      have w0:=(lP (by decide) hc).2;simp only[qU,e1,e2,e3,e4,e5]
      refine .inr ⟨rfl,(by show i<i+1+1+1+1+1+1;omega),i5,f5,⟨.inl rfl,v1.1,v1.2,v3.1,v3.2,fun a h=>Un a h,by simp,rM,fun h=>absurd (show (1:Int)=3 from h) (by decide)⟩,
       [TT ts i,TT ts (i+1),TT ts (i+1+1),TT ts (i+1+1+1),TT ts (i+1+1+1+1)],TT ts (i+1+1+1+1+1),?_,c5,?_,⟨by simp,?_,rfl,.inl ⟨rfl,hc,by simp,c2,c4,rfl,rfl⟩⟩,fun n _=>sX (by simp) ?_ ?_⟩
      ·rw[zL ts i hi,zL ts (i+1) i1,zL ts (i+1+1) i2,zL ts (i+1+1+1) i3,zL ts (i+1+1+1+1) i4,zL ts (i+1+1+1+1+1) i5];rfl
      ·intro t ht
       simp only[pf,lu,dc]at ht;rcases ht with rfl|rfl|rfl|rfl|rfl
       ·show cA ts i≠uX;rw[hc];decide
       ·show cA ts (i+1)≠uX;rw[c1];decide
       ·show cA ts (i+1+1)≠uX;rw[c2];decide
       ·show cA ts (i+1+1+1)≠uX;rw[c3];decide
       ·show cA ts (i+1+1+1+1)≠uX;rw[c4];decide
      ·intro t ht
       simp only[pf,lu,dc]at ht;rcases ht with rfl|rfl|rfl|rfl|rfl
       ·exact zK5.get hi
       ·exact zK5.get i1
       ·exact zK5.get i2
       ·exact zK5.get i3
       ·exact zK5.get i4
      ·show cA ts i≠jZ;rw[hc];decide
      ·intro st
       show sM (sL (qA 0 (tA ts (i+1+1+1+1))) (yN [46,46] (sL (qA 0 (tA ts (i+1+1))) (yN (tA ts (i+1)) (yN B2 st)))))=sM (yN (tA ts (i+1+1+1+1)) (yN (tA ts (i+1+1+1)) (yN (tA ts (i+1+1)) (yN (tA ts (i+1)) (yN (tA ts i) st)))));rw[sL,sL,v2,v4,w3,w0]
     ·exact .inl (qC (by simp only[qU,e1,e2,e3,e4,e5]) (iL (by omega) (by decide) (show kO Jn=[[59]] by decide) c5) f4)
    ·exact .inl (qC (by simp only[qU,e1,e2,e3,e4,nJ]) (iL (by omega) (by decide) (show kO xd=[xR] by decide) c4) f3)
   ·exact .inl (qC (by simp only[qU,e1,e2,e3,YL,nJ]) (iL (by omega) (by decide) (show kO sTo=[[46,46]] by decide) c3) f2)
  ·exact .inl (qC (by simp only[qU,e1,e2,YL,nJ]) (iL (by omega) (by decide) (show kO xj=[xR] by decide) c2) f1)
 ·exact .inl (qC (by simp only[qU,e1,YL,nJ]) (iL (by omega) (by decide) (show kO B2=[xP] by decide) c1) hf)
theorem Ga{len:Nat}(zK5:gQ ts)(hi:i<ts.length)(hc:cA ts i=CV):iT ts len i (kM (pp ts len) (i+1,false)):=by
 have hf:FA ts len i tO 0=FA ts len (i+1) Qp 0:=uG hi hc rfl (by decide) rfl;rcases cC (len:=len) (show i+1<=ts.length from hi) with ⟨c1,i1,e1⟩|⟨c1,e1⟩
 ·have f1:=hf.trans (uG i1 c1 (show uB Qp xP 0=Jn from rfl) (by decide) rfl)
  rcases dJ (len:=len) (t:=[59]) (show i+1+1<=ts.length from i1) (by decide) with ⟨c5,i5,e5⟩|⟨c5,e5⟩
  ·have f5:=f1.trans (uG i5 c5 (show uB Jn [59] 0=tO from rfl) (by decide) rfl)
   have w0:=(lP (by decide) hc).2;simp only[kM,e1,e5]
   refine .inr ⟨rfl,(by show i<i+1+1+1;omega),i5,f5,⟨.inr (.inl rfl),by simp,by simp,by simp,by simp,fun a h=>Un a h,by simp,rM,fun h=>absurd (show (2:Int)=3 from h) (by decide)⟩,
    [TT ts i,TT ts (i+1)],TT ts (i+1+1),?_,c5,?_,⟨by simp,?_,rfl,.inr (.inl ⟨rfl,hc⟩)⟩,fun n _=>sX (by simp) ?_ ?_⟩
   ·rw[zL ts i hi,zL ts (i+1) i1,zL ts (i+1+1) i5];rfl
   ·intro t ht
    simp only[pf,lu,dc]at ht;rcases ht with rfl|rfl
    ·show cA ts i≠uX;rw[hc];decide
    ·show cA ts (i+1)≠uX;rw[c1];decide
   ·intro t ht
    simp only[pf,lu,dc]at ht;rcases ht with rfl|rfl
    ·exact zK5.get hi
    ·exact zK5.get i1
   ·show cA ts i≠jZ;rw[hc];decide
   ·intro st
    show sM (yN (tA ts (i+1)) (yN CV st))=sM (yN (tA ts (i+1)) (yN (tA ts i) st));rw[w0]
  ·exact .inl (qC (by simp only[kM,e1,e5]) (iL (by omega) (by decide) (show kO Jn=[[59]] by decide) c5) f1)
 ·exact .inl (qC (by simp only[kM,e1,nJ]) (iL (by omega) (by decide) (show kO Qp=[xP] by decide) c1) hf)
theorem Fp{len:Nat}(zK5:gQ ts)(hi:i<ts.length)(hc:cA ts i=iB):iT ts len i (qE (pp ts len) (i+1,false)):=by
 have hf:FA ts len i tO 0=FA ts len (i+1) iB 0:=uG hi hc rfl (by decide) rfl;rcases cC (len:=len) (show i+1<=ts.length from hi) with ⟨c1,i1,e1⟩|⟨c1,e1⟩
 ·have f1:=hf.trans (uG i1 c1 (show uB iB xP 0=Qp from rfl) (by decide) rfl)
  rcases cC (len:=len) (show i+1+1<=ts.length from i1) with ⟨c2,i2,e2⟩|⟨c2,e2⟩
  ·have f2:=f1.trans (uG i2 c2 (show uB Qp xP 0=Jn from rfl) (by decide) rfl)
   rcases dJ (len:=len) (t:=[59]) (show i+1+1+1<=ts.length from i2) (by decide) with ⟨c5,i5,e5⟩|⟨c5,e5⟩
   ·have f5:=f2.trans (uG i5 c5 (show uB Jn [59] 0=tO from rfl) (by decide) rfl)
    have w0:=(lP (by decide) hc).2;simp only[qE,e1,e2,e5]
    refine .inr ⟨rfl,(by show i<i+1+1+1+1;omega),i5,f5,⟨.inr (.inr (.inr rfl)),by simp,by simp,by simp,by simp,fun a h=>Un a h,by simp,rM,fun h=>absurd (show (4:Int)=3 from h) (by decide)⟩,
     [TT ts i,TT ts (i+1),TT ts (i+1+1)],TT ts (i+1+1+1),?_,c5,?_,⟨by simp,?_,rfl,.inr (.inr (.inl ⟨rfl,hc,by simp,rfl⟩))⟩,fun n _=>sX (by simp) ?_ ?_⟩
    ·rw[zL ts i hi,zL ts (i+1) i1,zL ts (i+1+1) i2,zL ts (i+1+1+1) i5];rfl
    ·intro t ht
     simp only[pf,lu,dc]at ht;rcases ht with rfl|rfl|rfl
     ·show cA ts i≠uX;rw[hc];decide
     ·show cA ts (i+1)≠uX;rw[c1];decide
     ·show cA ts (i+1+1)≠uX;rw[c2];decide
    ·intro t ht
     simp only[pf,lu,dc]at ht;rcases ht with rfl|rfl|rfl
     ·exact zK5.get hi
     ·exact zK5.get i1
     ·exact zK5.get i2
    ·show cA ts i≠jZ;rw[hc];decide
    ·intro st
     show sM (yN (tA ts (i+1+1)) (yN (tA ts (i+1)) (yN iB st)))=sM (yN (tA ts (i+1+1)) (yN (tA ts (i+1)) (yN (tA ts i) st)));rw[w0]
   ·exact .inl (qC (by simp only[qE,e1,e2,e5]) (iL (by omega) (by decide) (show kO Jn=[[59]] by decide) c5) f2)
  ·exact .inl (qC (by simp only[qE,e1,e2,nJ]) (iL (by omega) (by decide) (show kO Qp=[xP] by decide) c2) f1)
 ·exact .inl (qC (by simp only[qE,e1,Bm,nJ]) (iL (by omega) (by decide) (show kO iB=[xP] by decide) c1) hf)
theorem Cs(u:zT)(t:Nat × Bs)(v:zT)(hu:∀x∈u,zZ x.2≠xC)(ht:zZ t.2=xC):∀i,Qb (u++t::v) i=some (i+u.length):=by
 induction u with
 | nil=>intro i;rw[bj,Qb,tr ht];rfl
 | cons x r ih =>
   intro i;rw[my,Qb,tj (hu x (bm ..)),ih (fun y hy=>hu y (pt _ hy)),tz];congr 1;omega
theorem DV{n:Nat}{x:zE}{h:zT}{w:Nat × Bs}{k:Nat}{y:Bs × Int}{N:List zN}{a:Int}(hr:zZ ((h++w::v).getD 0 (0,[])).2=jZ)(hu:∀y∈h,zZ y.2≠xC)(hw:zZ w.2=xC)(ht:Gr k v y N a)(hn:v.length<n)
 (hx:∀st,Qc x st=sM (yN y.1 (kC (h++[w]) st))) :
 Vv n (h++w::v)/\∀out,Qc x (out,false)=(out++mK n (h++w::v)++[59,10],false):=by
 have e:sA (h++w::v)=(h.length:Int):=by unfold sA;rw[Cs h w v hu hw 0];simp
 have e1:(h++w::v).take (h.length+1)=h++[w]:=by
  rw[show h++w::v=(h++[w])++v by simp];exact List.take_left' (by simp)
 have e2:(h++w::v).drop (h.length+1)=v:=by
  rw[show h++w::v=(h++[w])++v by simp];exact List.drop_left' (by simp)
 obtain⟨t1,t2⟩:=zm ht n hn;have hp:=ht.pos;refine⟨⟨by simp only[tq,tz];omega,fun _=>⟨by omega,?_,?_⟩⟩,fun out=>?_⟩
 ·rw[e];simp only[tq,tz];omega
 ·rw[e,Int.toNat_natCast,e2];exact t2
 ·rw[hx,fU (by simp),<-pZ,Ks,mK,tr hr,e,Int.toNat_natCast,e1,e2,t1]
theorem G2{p a b c d e:Bs}{ta tb tc td te:Nat × Bs}(ha:zZ ta.2=a)(hb:zZ tb.2=b)(hc:zZ tc.2=c)(hd:zZ td.2=d)(he:zZ te.2=e)(h:a≠[42]/\b≠[42]/\c≠[42]/\d≠[42]/\e≠[42]):rY p (ta::tb::tc::td::te::v)=rY te.2 v:=by
 subst ha hb hc hd he;simp only[rY];rw[tu h.1,tu h.2.1,tu h.2.2.1,tu h.2.2.2.1,tu h.2.2.2.2];simp
theorem DU{b c d e w:Nat × Bs}{gv:zT}{S:List yQ}{nd:List zN}{root te de:Int}{x:Bs × Int}{k:Nat}(ha:zZ a.2=jZ)(hb:zZ b.2=xP)(hc:zZ c.2=[58])(hd:zZ d.2=xP)(he:zZ e.2=[61])(hw:zZ w.2=xC)
 (hwn:∀t∈(a::b::c::d::e::v),zZ t.2≠xC) (hv:0<v.length) (zJZ:d.2≠[]) (hS:XW v S) (hSS:zB0 false S v) (hG:Gr k gv x nd root) (hW:Wt ⟨(i,false),[],0,0⟩ 0 ⟨(i,false),nd,te,de⟩ gv) :
 zB6 ⟨3,b.2,0,0,d.2,S,nd,root,te,de,[]⟩ ((a::b::c::d::e::v)++w::gv) (v.length+5):=by
 have hl:(a::b::c::d::e::v).length=v.length+5:=rfl;have e1:((a::b::c::d::e::v)++w::gv).take (v.length+5)=a::b::c::d::e::v:=List.take_left' hl
 have e2:((a::b::c::d::e::v)++w::gv).drop (v.length+5+1)=gv:=by
  rw[show (a::b::c::d::e::v)++w::gv=((a::b::c::d::e::v)++[w])++gv by simp];exact List.drop_left' (by simp)
 obtain⟨y,L,w1,w2,w3,w4,w5,w6⟩:=hW;simp only at w3 w4 w6
 have hy:y=(te,de):=by
  obtain⟨y1,y2⟩:=y;simp only at w2 w3 w4;have h1:y1=te:=by omega
  have h2:y2=de:=by omega
  rw[h1,h2]
 refine⟨?_,by omega,?_,rfl,zJZ,?_,?_,?_,?_,?_,?_,?_,by rw[e1];exact hSS,k,x,by rw[e2];exact hG⟩
 ·rw[Cs _ w gv hwn hw 0,hl];simp
 ·have hp:=hG.pos;simp only[tq,tz];omega
 ·rw[e1]
  simp only[dD,ha,hb,hc,hd,he];rw[tj (by decide),tj (by decide),tj (by decide),tj (by decide)];have:=hS.count;omega
 ·rw[e1,G2 ha hb hc hd he (by decide)];exact hS.big _
 ·intro k hk hcl
  have hk2:cA ((a::b::c::d::e::v)++w::gv) k=cA (a::b::c::d::e::v) k:=by
   unfold cA tA;rw[List.getD,List.getD,po (by rw[hl];exact hk)]
  rw[hk2]at hcl
  match k,hk,hcl with
  | 0,_,h=>exact absurd (ha.symm.trans h) (by decide)
  | 1,_,h=>exact absurd (hb.symm.trans h) (by decide)
  | 2,_,h=>exact absurd (hc.symm.trans h) (by decide)
  | 3,_,h=>exact absurd (hd.symm.trans h) (by decide)
  | 4,_,h=>exact absurd (he.symm.trans h) (by decide)
  | k+5,hk,h =>
    obtain⟨h1,h2⟩:=hS.star k (by omega) h;refine⟨by omega,?_⟩;obtain⟨m,rfl⟩:∃m,k=m+1:=⟨k-1,by omega⟩
    have hk3:cA ((a::b::c::d::e::v)++w::gv) (m+5)=cA (a::b::c::d::e::v) (m+5):=by
     unfold cA tA;rw[List.getD,List.getD,po (by rw[hl];omega)]
    show cA _ (m+5)=xR;rw[hk3];exact h2
 ·rw[e1];exact hS.needs
 ·rw[e2,w5 xC [] ⟨by decide,by decide⟩ (by decide),w6];rfl
 ·rw[e2,<-hy];exact w1
 ·intro n hn
  rw[e2];refine(zm hG n ?_).2;simp only[tq,tz]at hn;omega
theorem DW{len:Nat}(zK5:gQ ts)(zJV:ts.length<=4000)(hi:i<ts.length)(hc:cA ts i=jZ):iT ts len i (kL (pp ts len) (i+1,false)):=by
 have hf:FA ts len i tO 0=FA ts len (i+1) jZ 0:=uG hi hc rfl (by decide) rfl;have w0:=(lP (by decide) hc).2;rcases cC (len:=len) (show i+1<=ts.length from hi) with ⟨c1,i1,e1⟩|⟨c1,e1⟩
 rotate_left
 ·exact .inl (qC (kI (fF (kI (Jg (kI (CF (kI (by rw[e1])))))))) (iL (by omega) (by decide) (show kO jZ=[xP] by decide) c1) hf)
 have f1:=hf.trans (uG i1 c1 (show uB jZ xP 0=U7 from rfl) (by decide) rfl);rcases dJ (len:=len) (t:=[58]) (show i+1+1<=ts.length from i1) (by decide) with ⟨c2,i2,e2⟩|⟨c2,e2⟩
 rotate_left
 ·exact .inl (qC (kI (fF (kI (Jg (kI (CF (by rw[e1,e2]))))))) (iL (by omega) (by decide) (show kO U7=[[58]] by decide) c2) f1)
 have f2:=f1.trans (uG i2 c2 (show uB U7 [58] 0=U8 from rfl) (by decide) rfl);have w2:=(lP (by decide) c2).2;rcases cC (len:=len) (show i+1+1+1<=ts.length from i2) with ⟨c3,i3,e3⟩|⟨c3,e3⟩
 rotate_left
 ·exact .inl (qC (kI (fF (kI (Jg (kI (by rw[e1,e2,e3])))))) (iL (by omega) (by decide) (show kO U8=[xP] by decide) c3) f2)
 have f3:=f2.trans (uG i3 c3 (show uB U8 xP 0=xg from rfl) (by decide) rfl);rcases dJ (len:=len) (t:=[61]) (show i+1+1+1+1<=ts.length from i3) (by decide) with ⟨c4,i4,e4⟩|⟨c4,e4⟩
 rotate_left
 ·exact .inl (qC (kI (fF (kI (Jg (by rw[e1,e2,e3,e4]))))) (iL (by omega) (by decide) (show kO xg=[[61]] by decide) c4) f3)
 have f4:=f3.trans (uG i4 c4 (show uB xg [61] 0=cU from rfl) (by decide) rfl);have w4:=(lP (by decide) c4).2;have hS:=zCJ (len:=len) zK5 (pp ts len).length (i+1+1+1+1+1) false [] i4 (by rw[sW];omega);simp only[kL,e1,e2,e3,e4];have eS:kZ (pp ts len) (i+1+1+1+1+1,false)=jF (pp ts len) (pp ts len).length false (i+1+1+1+1+1,false) []:=rfl;rw[eS];generalize jF (pp ts len) (pp ts len).length false (i+1+1+1+1+1,false) []=r at hS ⊢;obtain⟨S,⟨j,f⟩⟩:=r;rcases hS with ⟨g1,g2⟩|⟨g1,g2,g3,g4,g5,new,v,g6,g7,g8,g9,g10,g11,g12,gT,gS⟩
 ·simp only at g1;subst g1
  exact .inl (qC (kI (fF (kI rfl))) g2 f4)
 simp only[bj]at g1 g2 g3 g4 g5 g6 g10;subst g1 g6;rcases dJ (len:=len) (t:=xC) g3 (by decide) with ⟨c5,i5,e5⟩|⟨c5,e5⟩
 rotate_left
 ·exact .inl (qC (kI (fF e5)) (g5 c5) f4)
 have f5:=f4.trans (g4 c5);have w5:=(lP (by decide) c5).2;simp only[e5];have hG:=FT (len:=len) zK5 (show j+1<=ts.length from i5);generalize vL (pp ts len) (j+1,false)=y at hG ⊢;obtain⟨root,⟨⟨m,f⟩,nd,te,de⟩⟩:=y;rcases hG with ⟨k1,k2⟩|⟨k1,k2,k3,k4,k5,k6,k7,k8,gv,x,k9,k10,k11⟩
 ·simp only at k1;subst k1
  exact .inl (qC (kI rfl) k2 f5)
 simp only at k1 k2 k3 k4 k6 k7 k8 k9 k10;subst k1;have f6:=f5.trans k4;rcases dJ (len:=len) (t:=[59]) k3 (by decide) with ⟨c7,i7,e7⟩|⟨c7,e7⟩
 rotate_left
 ·exact .inl (qC (by simp only[e7]) (dO k3 (Za (k8 (by decide)) (k7 (by decide)) (fun _=>rfl) (fun e=>absurd e c7)) (.inr (by decide))) f6)
 have f7:=f6.trans (uG i7 c7 (show uB pP [59] 0=tO from rfl) (by decide) rfl);simp only[e7];have hb:=k9.bound
 have hlv:v.length<=ts.length:=by
  have h1:=congrArg List.length g10;simp only[tq,bw]at h1;omega
 have hlx:gv.length<=ts.length:=by
  have h1:=congrArg List.length k10;simp only[tq,bw]at h1;omega
 refine .inr ⟨rfl,(by show i<m+1;omega),i7,f7,⟨.inr (.inr (.inl rfl)),by simp,by simp,by simp,by simp,?_,(by show S.length<=10000;omega),k6,fun _=>⟨g7,hb.1,hb.2⟩⟩,
  (TT ts i::TT ts (i+1)::TT ts (i+1+1)::TT ts (i+1+1+1)::TT ts (i+1+1+1+1)::v)++TT ts j::gv,TT ts m,?_,c7,?_,?_,fun n hn=>DV ?_ ?_ c5 k9 (by omega) ?_⟩
 ·intro a ha
  have ha':a<S.length:=ha;show 0<=(ZI S a).num/\(ZI S a).num<=9999;unfold ZI;rw[List.getD,pw ha'];exact g9 _ (f9 ha')
 ·rw[zL ts i hi,zL ts (i+1) i1,zL ts (i+1+1) i2,zL ts (i+1+1+1) i3,zL ts (i+1+1+1+1) i4,g10,zL ts j i5,k10,zL ts m i7]
  simp
 ·intro t ht
  rcases ph.1 ht with ht|ht
  ·simp only[pf]at ht
   rcases ht with rfl|rfl|rfl|rfl|rfl|ht
   ·show cA ts i≠uX;rw[hc];decide
   ·show cA ts (i+1)≠uX;rw[c1];decide
   ·show cA ts (i+1+1)≠uX;rw[c2];decide
   ·show cA ts (i+1+1+1)≠uX;rw[c3];decide
   ·show cA ts (i+1+1+1+1)≠uX;rw[c4];decide
   ·exact(g11 t ht).1
  ·rcases pf.1 ht with rfl|ht
   ·show cA ts j≠uX;rw[c5];decide
   ·exact k9.noEnd t ht
 ·have hg0:0<v.length:=by omega
  have hwn:∀t∈(TT ts i::TT ts (i+1)::TT ts (i+1+1)::TT ts (i+1+1+1)::TT ts (i+1+1+1+1)::v),zZ t.2≠xC:=by
   intro t ht;simp only[pf]at ht;rcases ht with rfl|rfl|rfl|rfl|rfl|ht
   ·show cA ts i≠xC;rw[hc];decide
   ·show cA ts (i+1)≠xC;rw[c1];decide
   ·show cA ts (i+1+1)≠xC;rw[c2];decide
   ·show cA ts (i+1+1+1)≠xC;rw[c3];decide
   ·show cA ts (i+1+1+1+1)≠xC;rw[c4];decide
   ·exact(g11 t ht).2
  refine⟨by simp,?_,rfl,.inr (.inr (.inr ⟨rfl,hc,v.length+5,DU hc c1 c2 c3 c4 c5 hwn hg0 (zK5.at' i3).1 gT gS k9 k11⟩))⟩
  have hall:(TT ts i::TT ts (i+1)::TT ts (i+1+1)::TT ts (i+1+1+1)::TT ts (i+1+1+1+1)::v)++TT ts j::gv++TT ts m::ts.drop (m+1)=ts.drop i:=by
   rw[zL ts i hi,zL ts (i+1) i1,zL ts (i+1+1) i2,zL ts (i+1+1+1) i3,zL ts (i+1+1+1+1) i4,g10,zL ts j i5,k10,zL ts m i7];simp
  intro t ht;refine zK5 t (List.mem_of_mem_drop (i:=i) ?_);rw[<-hall];exact List.mem_append_left _ ht
 ·show cA ts i=jZ;exact hc
 ·intro t ht
  simp only[pf]at ht;rcases ht with rfl|rfl|rfl|rfl|rfl|ht
  ·show cA ts i≠xC;rw[hc];decide
  ·show cA ts (i+1)≠xC;rw[c1];decide
  ·show cA ts (i+1+1)≠xC;rw[c2];decide
  ·show cA ts (i+1+1+1)≠xC;rw[c3];decide
  ·show cA ts (i+1+1+1+1)≠xC;rw[c4];decide
  ·exact(g11 t ht).2
 ·intro st
  show sM (dQ nd nd.length root.toNat (yN xC (Zo S 0 (yN [61] (yN (tA ts (i+1+1+1)) (yN [58] (yN (tA ts (i+1)) (yN jZ st))))))))=_;rw[w_gr k9 nd.length _ (by omega),g12,sV];show _=sM (yN x.1 (yN (tA ts j) (kC v (yN (tA ts (i+1+1+1+1)) (yN (tA ts (i+1+1+1)) (yN (tA ts (i+1+1)) (yN (tA ts (i+1)) (yN (tA ts i) st))))))));rw[w0,w2,w4,w5];rfl
theorem Vc{len:Nat}(zK5:gQ ts)(zJV:ts.length<=4000)(hi:i<ts.length):iT ts len i (vG (pp ts len) (i,false)):=by
 unfold vG;rcases lW (len:=len) (t:=[110,117,109]) (pb hi) (by decide) with ⟨c1,_,e1⟩|⟨c1,e1⟩
 ·simp only[e1];exact vx zK5 hi c1
 simp only[e1];rcases lW (len:=len) (t:=[102,108,97,103]) (pb hi) (by decide) with ⟨c2,_,e2⟩|⟨c2,e2⟩
 ·simp only[e2];exact Ga zK5 hi c2
 simp only[e2];rcases lW (len:=len) (t:=[114,117,108,101]) (pb hi) (by decide) with ⟨c3,_,e3⟩|⟨c3,e3⟩
 ·simp only[e3];exact DW zK5 zJV hi c3
 simp only[e3];rcases dJ (len:=len) (t:=[111,118,101,114]) (pb hi) (by decide) with ⟨c4,_,e4⟩|⟨c4,e4⟩
 ·simp only[e4];exact Fp zK5 hi c4
 simp only[e4];refine .inl (qC (j:=i) (by simp only[qE,Bm,nJ]) ?_ rfl);exact dO (pb hi) (pQ (by decide) (by decide) (by rw[Be];simp only[pf,lu,dc];rintro(h|h|h|h);exact c1 h;exact c2 h;exact c4 h;exact c3 h)) (.inl hi)
theorem Vb(u:zT)(e:Nat × Bs)(r:zT)(hu:∀t∈u,zZ t.2≠uX)(he:zZ e.2=uX):∀k a,jM (u++e::r) k a=(a,k+u.length-a)::jM r (k+u.length+1) (k+u.length+1):=by
 induction u with
 | nil=>intro k a;rw[bj,jM,tr he];rfl
 | cons t u ih =>
   intro k a;rw[my,jM,tj (hu t (bm ..)),ih (fun x hx=>hu x (pt _ hx)),tz,show k+1+u.length=k+(u.length+1) by omega]
theorem CP(j:Nat)(acc:List zE):(jA P n (j,true) acc).2=(j,true):=by
 cases n <;> rfl
def mT:List zE->List zT->Prop
 | [],[]=>True
 | x::xs,u::us=>LT x u/\mT xs us
 | _,_=>False
theorem qu{len:Nat}(hi:i<=ts.length):(yT (pp ts len) i).k=0 ↔ i=ts.length:=by
 constructor
 ·intro h
  rcases py i ts.length with h1|h1
  ·rw[gH h1]at h
   have h':yA (tA ts i)=0:=h;rcases rQ (tA ts i) with ⟨h2,_⟩|⟨h2,_⟩|⟨h2,_⟩|⟨h2,_⟩ <;> omega
  ·omega
 ·rintro rfl;rw[rP]
def Ua(ts:zT)(len i:Nat)(acc:List zE)(r:List zE × St):Prop :=
 (r.2.2=true/\FA ts len i tO 0=((yT (pp ts len) r.2.1).p:Int)) \/
 (r.2.2=false/\FA ts len i tO 0<0/\∃new,r.1=acc++new/\(∀x∈new,oT x)/\mT new ((jM (ts.drop i) i i).map (Y9 ts)) /\
  ∀n,ts.length<n->(∀p∈jM (ts.drop i) i i,Vv n (Y9 ts p))/\∀out,Je new (out,false)=(Yz n ts (jM (ts.drop i) i i) out,false))
theorem F9{len:Nat}(zK5:gQ ts)(zJV:ts.length<=4000)(n:Nat):∀(i:Nat) (acc:List zE),i<=ts.length->aW (pp ts len) (i,false)<=n->Ua ts len i acc (jA (pp ts len) n (i,false) acc):=by
 induction n with
 | zero=>intro i acc hi h;unfold aW at h;rw[sW]at h;simp only at h;omega
 | succ n ih =>
   intro i acc hi hn;rw[jA];simp only;by_cases hk:(yT (pp ts len) i).k=0
   ·rw[tr hk]
    obtain rfl:=(qu hi).1 hk;refine .inr ⟨rfl,?_,[],by simp,by simp,?_,fun n _=>⟨?_,?_⟩⟩
    ·unfold FA;rw[List.drop_length,cF,tr rfl];decide
    ·rw[List.drop_length,jM];trivial
    ·intro p hp;rw[List.drop_length,jM]at hp;simp at hp
    ·intro out;rw[List.drop_length,jM];rfl
   ·rw[tj hk]
    have hi':i<ts.length:=by
     rcases py i ts.length with h|h
     ·exact h
     ·exact absurd ((qu (len:=len) hi).2 (by omega)) hk
    have hg:=Qe (P:=pp ts len) (s:=(i,false)) rfl (by rw[sW];show i<ts.length+1;omega);have hL:=Vc (len:=len) zK5 zJV hi';generalize vG (pp ts len) (i,false)=r at hL hg ⊢;obtain⟨x,⟨j,f⟩⟩:=r;rcases hL with ⟨h1,h2⟩|⟨h1,h2,h3,h4,h5,u,e,h6,h7,h8,hLT,h9⟩
    ·simp only at h1;subst h1
     refine .inl ?_;rw[CP];exact⟨rfl,h2⟩
    ·simp only at h1 h2 h3 h4 h5 h6 h9;subst h1
     have hI:=ih j (acc++[x]) h3 (by simp only at hg;omega)
     have hj:i+u.length+1=j:=by
      have h:=congrArg List.length h6;simp only[tq,bw,tz]at h;omega
     have hl:jM (ts.drop i) i i=(i,u.length)::jM (ts.drop j) j j:=by
      rw[h6,Vb u e _ h8 h7,hj,show i+u.length-i=u.length by omega]
     have hs:Y9 ts (i,u.length)=u:=by
      unfold Y9;rw[h6];exact List.take_left' rfl
     rcases hI with ⟨g1,g2⟩|⟨g1,g2,new,g3,g4,gL,g5⟩
     ·exact .inl ⟨g1,by rw[h4];exact g2⟩
     ·refine .inr ⟨g1,by rw[h4];exact g2,x::new,by rw[g3];simp,?_,?_,fun n hn=>?_⟩
      ·intro y hy
       rcases pf.1 hy with rfl|hy
       ·exact h5
       ·exact g4 y hy
      ·rw[hl,cq,hs];exact⟨hLT,gL⟩
      ·obtain⟨a1,a2⟩:=h9 n hn
       obtain⟨b1,b2⟩:=g5 n hn;rw[hl];refine⟨?_,fun out=>?_⟩
       ·intro p hp
        rcases pf.1 hp with rfl|hp
        ·rw[hs];exact a1
        ·exact b1 p hp
       ·rw[Je,a2,b2,Yz,hs]
theorem Ju:∀s acc,(jA P n s acc).1.length<=acc.length+n:=by
 induction n with
 | zero=>intro s acc;exact tg _
 | succ n ih =>
   intro s acc;rw[jA];split
   ·simp only;omega
   ·split
    ·simp only;omega
    ·have:=ih (vG P s).2 (acc++[(vG P s).1])
     simp only[tq,mh]at this;omega
theorem DB(ts:zT)(ps:List (Nat × Nat)):∀s,(Yz n ts ps s).length<=s.length+ZA ts ps:=by
 induction ps with
 | nil=>intro s;simp[Yz,ZA]
 | cons p r ih =>
   intro s;rw[Yz,ZA];have h1:=ih (s++mK n (Y9 ts p)++[59,10]);have h2:=JA n (Y9 ts p);simp only[tq,tz,List.length_nil]at h1;omega
structure zJI(l:Bs):Prop where
 place:(vY l).2.2=true->V1 l=((yT (sB l) (vY l).2.1).p:Int)
 lines:(vY l).2.2=false->mT (vY l).1 ((wN (xB l 0)).map (Y9 (xB l 0)))
theorem Fe{n:Nat}{l:Bs}(hl:l.length<=4000)(hn:4000<n):zJH n l/\zJI l:=by
 have ht:(xB l 0).length<=4000:=p8 (fP l 0) hl;have eP:sB l=pp (xB l 0) l.length:=rfl;have eF:FA (xB l 0) l.length 0 tO 0=V1 l:=rfl;have hR:=F9 (len:=l.length) (Qd l) ht (2*(sB l).length+1) 0 [] (p7 _) (by rw[eP];unfold aW;simp only;omega);rw[<-eP]at hR;have eR:jA (sB l) (2*(sB l).length+1) (0,false) []=vY l:=rfl;rw[eR]at hR;unfold Ua at hR;rw[eF,<-eP]at hR
 have hm:(vY l).1.length<=10000:=by
  have:=Ju (sB l) (2*(sB l).length+1) (0,false) [];rw[eR,eP,sW]at this;simp only[List.length_nil]at this;omega
 have hs:(Cy n l).length<=zI5:=by
  have h1:=DB n (xB l 0) (wN (xB l 0)) [];have h2:=Gp (xB l 0);have h3:=DA l;unfold Cy zI5;simp only[List.length_nil]at h1;omega
 rcases hR with ⟨h1,h2⟩|⟨h1,h2,new,h3,h4,hA,h5⟩
 ·refine⟨⟨fun _=>by rw[h2];exact Int.natCast_nonneg _,fun h=>?_,fun h=>?_,hm,fun h=>?_,hs,fun h=>?_⟩,fun _=>h2,fun h=>?_⟩
  ·rw[h1]at h;exact absurd h (by decide)
  ·rw[h1]at h;exact absurd h (by decide)
  ·rw[h1]at h;exact absurd h (by decide)
  ·rw[h2]at h;exact absurd h (by omega)
  ·rw[h1]at h;exact absurd h (by decide)
 ·obtain⟨a1,a2⟩:=h5 n (by omega)
  rw[bj]at h3;refine⟨⟨fun h=>?_,fun _=>h2,fun _=>?_,hm,fun _=>?_,hs,fun _=>a1⟩,fun h=>?_,fun _=>?_⟩
  ·rw[h1]at h;exact absurd h (by decide)
  ·rw[h3];exact h4
  ·rw[h3,a2];rfl
  ·rw[h1]at h;exact absurd h (by decide)
  ·rw[h3];exact hA
end Go.Proofs.YtnbpdffdnphbeabGreatDoor
