import Derived.Test.YtnbpdffdnphbeabGreatDoorPWeight
namespace Go.Proofs.YtnbpdffdnphbeabGreatDoor
variable{len i:Nat}{a:Nat × Bs}{s:St}{v ts:yF}(P:List PT)(n:Nat)(m:Bool)
def fU:Bs:=[112,97,114,116]
def aC:Bs:=[112,97,114,116,101,100]
def nG:Bs:=[99,111,117,110,116,101,100]
def I2:Bs:=[116,105,109,101,115]
theorem Df:jI fU=[vC,vD]:=by decide
theorem KZ:jI aC=[[43],[45],xF]:=by decide
theorem Jw:jI nG=[[42],[43],[45],xF]:=by decide
theorem Uz:jI I2=[vC]:=by decide
abbrev Vf(c:Bs):Prop:=c≠qM/\c≠xF
def Ek(x:yT)(v:yF):Prop :=
 (∃a b c,v=[a,b,c]/\yE a.2=vD/\yE b.2=[42]/\yE c.2=vC/\c.2≠[]/\x.ak=true/\x.num=qQ 0 a.2/\x.name=c.2) \/
 (∃a,v=[a]/\yE a.2=vD/\x.ak=false/\x.num=qQ 0 a.2/\x.name=[]) \/
 (∃a,v=[a]/\yE a.2=vC/\a.2≠[]/\x.ak=false/\x.num=0/\x.name=a.2)
def Av:Bool->List yT->yF->Prop
 | _,[],_=>False
 | m,x::r,v=>x.minus=m/\((r=[]/\Ek x v)\/∃v1 t v2,v=v1++t::v2/\Ek x v1/\((yE t.2=[45]/\Av true r v2)\/(yE t.2=[43]/\Av false r v2)))
def NL(ts:yF)(len i:Nat)(m:Bool)(r:yT × St):Prop :=
 (r.2.2=true/\FA ts len i fU 0=((yB (pp ts len) r.2.1).p:Int)) \/
 (r.2.2=false/\i<r.2.1/\r.2.1<=ts.length/\(∃st,(st=aC\/st=nG/\cA ts r.2.1≠[42])/\FA ts len i fU 0=FA ts len r.2.1 st 0)/\r.1.minus=m/\(0<=r.1.num/\r.1.num<=9999) /\
  ∃v,ts.drop i=v++ts.drop r.2.1/\0<v.length/\(∀t∈v,Vf (yE t.2))/\(∀st,Za r.1 st=kU v st)/\J4 v [r.1]/\Ek r.1 v)
theorem Cu{b c:Nat × Bs}(ha:yE a.2=vD)(hb:yE b.2=[42])(hc:yE c.2=vC)(hn:c.2≠[])(m:Bool):J4 [a,b,c] [⟨m,true,qQ 0 a.2,c.2⟩]:=by
 refine⟨?_,?_,?_,?_⟩
 ·simp only[rF,ha,hb,hc]
  rw[i6,i6,tr trivial];simp[Uq,hn]
 ·simp only[gI,ha,hb,hc]
  rw[i6,i6,i6];rfl
 ·intro p
  simp only[eD,ha,hb,hc];rw[ty (by decide:¬vD=[42]),ty (by decide:¬vC=[42])];simp[jD]
 ·intro k hk h
  have:k=0\/k=1\/k=2:=by simp at hk;omega
  rcases this with rfl|rfl|rfl
  ·exact M' (ha.symm.trans h)
  ·exact⟨by decide,ha⟩
  ·exact M' (hc.symm.trans h)
theorem Sq(ha:yE a.2=vD)(m:Bool):J4 [a] [⟨m,false,qQ 0 a.2,[]⟩]:=by
 refine⟨?_,?_,?_,?_⟩
 ·simp only[rF,ha];rw[i6];simp[Uq]
 ·simp only[gI,ha];rw[i6];rfl
 ·intro p;simp only[eD,ha];rw[ty (by decide:¬vD=[42])];simp[jD]
 ·intro k hk h
  obtain rfl:k=0:=by simp at hk;exact hk
  exact M' (ha.symm.trans h)
theorem zo(ha:yE a.2=vC)(hn:a.2≠[])(m:Bool):J4 [a] [⟨m,false,0,a.2⟩]:=by
 refine⟨?_,?_,?_,?_⟩
 ·simp only[rF,ha];rw[tr trivial];simp[Uq,hn]
 ·simp only[gI,ha];rw[i6];rfl
 ·intro p;simp only[eD,ha];rw[ty (by decide:¬vC=[42])];simp[jD]
 ·intro k hk h
  obtain rfl:k=0:=by simp at hk;exact hk
  exact M' (ha.symm.trans h)
theorem OH(aA:oW ts)(hi:i<ts.length):(tA ts i).isEmpty=false:=by
 have:=(aA.at' hi).1
 cases hx:tA ts i with
 | nil=>exact x' hx this
 | cons a b=>rfl
theorem Sb(aA:oW ts)(h:i<=ts.length)(m:Bool):NL ts len i m (vV (pp ts len) m (i,false)):=by
 rcases Zt (len:=len) h with ⟨hc,hi,e⟩|⟨hc,e⟩
 ·have e0:=Xr (len:=len) h false
  rw[tz hc]at e0;obtain⟨v1,v2⟩:=KX (aA.at' hi) hc;have hf:FA ts len i fU 0=FA ts len (i+1) nG 0:=uV hi hc rfl (by decide) rfl;rcases cE (len:=len) (show i+1<=ts.length from hi) (t:=[42]) (by decide) with ⟨aB,aJ,e2⟩|⟨aB,e2⟩
  ·have hw:=(bZ (by decide) aB).2
   have aP:FA ts len i fU 0=FA ts len (i+1+1) I2 0:=hf.trans (uV aJ aB rfl (by decide) rfl);rcases dZ (len:=len) (show i+1+1<=ts.length from aJ) with ⟨aD,aF,e3⟩|⟨aD,e3⟩
   ·have e':vV (pp ts len) m (i,false)=(⟨m,true,qQ 0 (tA ts i),tA ts (i+1+1)⟩,(i+1+1+1,false)):=by
     simp only[vV,e0,e,e2,e3]
    rw[e'];refine .inr ⟨rfl,(by show i<i+1+1+1;omega),aF,⟨aC,.inl rfl,aP.trans (uV aF aD rfl (by decide) rfl)⟩,rfl,v1,[TT ts i,TT ts (i+1),TT ts (i+1+1)],?_,by simp,?_,?_,Cu hc aB aD (aA.at' aF).1 m,.inl ⟨_,_,_,rfl,hc,aB,aD,(aA.at' aF).1,rfl,rfl,rfl⟩⟩
    ·rw[zN ts i hi,zN ts (i+1) aJ,zN ts (i+1+1) aF];rfl
    ·intro t ht
     simp only[pi,lq,df]at ht;rcases ht with rfl|rfl|rfl
     ·show Vf (cA ts i);rw[hc];decide
     ·show Vf (cA ts (i+1));rw[aB];decide
     ·show Vf (cA ts (i+1+1));rw[aD];decide
    ·intro st
     show zH (tA ts (i+1+1)) (zH [42] (jR (qQ 0 (tA ts i)) st))=zH (tA ts (i+1+1)) (zH (tA ts (i+1)) (zH (tA ts i) st));rw[jR,v2,hw]
   ·have e':(vV (pp ts len) m (i,false)).2=(i+1+1,true):=by
     simp only[vV,e0,e,e2,e3]
    refine .inl ⟨by rw[e'],?_⟩;rw[e',aP];exact nB aJ (mO (by decide) (by decide) (by rw[Uz];simpa using aD)) (.inr (by decide))
  ·have e':vV (pp ts len) m (i,false)=(⟨m,false,qQ 0 (tA ts i),[]⟩,(i+1,false)):=by
    simp only[vV,e0,e,e2]
   rw[e'];refine .inr ⟨rfl,(by show i<i+1;omega),hi,⟨nG,.inr ⟨rfl,aB⟩,hf⟩,rfl,v1,[TT ts i],zN ts i hi,by simp,?_,?_,Sq hc m,.inr (.inl ⟨_,rfl,hc,rfl,rfl,rfl⟩)⟩
   ·intro t ht;obtain rfl:=pr.1 ht
    show Vf (cA ts i);rw[hc];decide
   ·intro st
    show jR (qQ 0 (tA ts i)) st=zH (tA ts i) st;rw[jR,v2]
 ·have e0:=Xr (len:=len) h false
  rw[ty hc]at e0;rcases dZ (len:=len) h with ⟨aD,aF,e3⟩|⟨aD,e3⟩
  ·have e':vV (pp ts len) m (i,false)=(⟨m,false,0,tA ts i⟩,(i+1,false)):=by
    simp only[vV,e0,e3]
   rw[e'];refine .inr ⟨rfl,(by show i<i+1;omega),aF,⟨aC,.inl rfl,uV aF aD rfl (by decide) rfl⟩,rfl,by simp,[TT ts i],zN ts i aF,by simp,?_,?_,zo aD (aA.at' aF).1 m,.inr (.inr ⟨_,rfl,aD,(aA.at' aF).1,rfl,rfl,rfl⟩)⟩
   ·intro t ht;obtain rfl:=pr.1 ht
    show Vf (cA ts i);rw[aD];decide
   ·intro st
    show Za ⟨m,false,0,tA ts i⟩ st=zH (tA ts i) st;simp only[Za,OH aA aF]
  ·have e':(vV (pp ts len) m (i,false)).2=(i,true):=by
    simp only[vV,e0,e3]
   refine .inl ⟨by rw[e'],?_⟩;rw[e'];exact nB h (mO (by decide) (by decide) (by rw[Df];simp[hc,aD])) (.inr (by decide))
theorem Mk(i:Nat):(vV P m (i,true)).2=(i,true):=by
 unfold vV;split <;> rfl
theorem Li(i:Nat)(ps:List yT):(tB P n m (i,true) ps).2=(i,true):=by
 cases n with
 | zero=>rfl
 | succ n =>
   rw[tB,Mk];rfl
def Lx(ts:yF)(len i:Nat)(m:Bool)(ps:List yT)(r:List yT × St):Prop :=
 (r.2.2=true/\FA ts len i fU 0=((yB (pp ts len) r.2.1).p:Int)) \/
 (r.2.2=false/\i<r.2.1/\r.2.1<=ts.length/\(cA ts r.2.1=xF->FA ts len i fU 0=FA ts len (r.2.1+1) bB 0)/\(cA ts r.2.1≠xF->FA ts len i fU 0=((yB (pp ts len) r.2.1).p:Int)) /\
  ∃new v,r.1=ps++new/\0<new.length/\new.length<=v.length/\(∀y∈new,0<=y.num/\y.num<=9999)/\ts.drop i=v++ts.drop r.2.1/\(∀t∈v,Vf (yE t.2)) /\
   (∀k st,tL new k st=kU v (eK m k st))/\J4 v new/\Av m new v)
theorem I5{st:Bs}{c:Bs}(h:st=aC\/st=nG)(hc:c=[45]\/c=[43]):uN st c 0=fU/\opn c 0=0:=by
 rcases h with rfl|rfl <;> rcases hc with rfl|rfl <;> exact⟨rfl,rfl⟩
theorem O0(aA:oW ts)(n:Nat):∀(i:Nat) (m:Bool) (ps:List yT),i<=ts.length->ts.length+1-i<=n->Lx ts len i m ps (tB (pp ts len) n m (i,false) ps):=by
 induction n with
 | zero=>intro i m ps h1 h2;omega
 | succ n ih =>
   intro i m ps hi hn;rw[tB];have hP:=Sb (len:=len) aA hi m;generalize vV (pp ts len) m (i,false)=r at hP ⊢;obtain⟨y,⟨j,f⟩⟩:=r;rcases hP with ⟨h1,h2⟩|⟨h1,h2,h3,⟨st,aM,h4⟩,h5,h6,v,h7,h8,h9,aK,hT,aO⟩
   ·simp only at h1;subst h1
    exact .inl ⟨rfl,h2⟩
   ·simp only at h1 h2 h3 aM h4 h5 h6 h7 aK;subst h1
    have aG:st=aC\/st=nG:=(by rcases aM with h|h;exact .inl h;exact .inr h.1);have aN:st≠bI/\st≠mM/\st≠pK:=(by rcases aG with rfl|rfl <;> decide);rcases cE (len:=len) h3 (t:=[45]) (by decide) with ⟨hc,hj,e⟩|⟨hc,e⟩
    ·simp only[e]
     have hw:=(bZ (by decide) hc).2;obtain⟨n1,n2⟩:=I5 aG (.inl rfl);have hf:FA ts len i fU 0=FA ts len (j+1) fU 0:=h4.trans (uV hj hc n1 (by decide) n2);have hI:=ih (j+1) true (ps++[y]) hj (by omega);generalize tB (pp ts len) n true (j+1,false) (ps++[y])=r at hI ⊢;rcases hI with ⟨g1,g2⟩|⟨g1,g2,g3,g4,g5,new,v',g6,g7,g8,g9,g10,g11,g12,gT,gS⟩
     ·exact .inl ⟨g1,by rw[hf];exact g2⟩
     ·refine .inr ⟨g1,by omega,g3,λh=>hf.trans (g4 h),λh=>by rw[hf];exact g5 h,y::new,v++TT ts j::v',by rw[g6];simp,by simp,by simp;omega,?_,?_,?_,?_,?_⟩
      ·intro z hz
       rcases pi.1 hz with rfl|hz
       ·exact h6
       ·exact g9 z hz
      ·rw[h7,zN ts j hj,g10];simp
      ·intro t ht
       rcases pj.1 ht with ht|ht
       ·exact h9 t ht
       ·rcases pi.1 ht with rfl|ht
        ·show Vf (cA ts j);rw[hc];decide
        ·exact g11 t ht
      ·intro k st
       rw[tL,g12,aK,h5,iM,kU];show kU v' (zH [45] _)=kU v' (zH (tA ts j) _);rw[hw]
      ·exact⟨hT.join gT (.inr hc),h5,.inr ⟨v,TT ts j,v',rfl,aO,.inl ⟨hc,gS⟩⟩⟩
    ·simp only[e]
     rcases cE (len:=len) h3 (t:=[43]) (by decide) with ⟨aB,hj,e2⟩|⟨aB,e2⟩
     ·simp only[e2]
      have hw:=(bZ (by decide) aB).2;obtain⟨n1,n2⟩:=I5 aG (.inr rfl);have hf:FA ts len i fU 0=FA ts len (j+1) fU 0:=h4.trans (uV hj aB n1 (by decide) n2);have hI:=ih (j+1) false (ps++[y]) hj (by omega);generalize tB (pp ts len) n false (j+1,false) (ps++[y])=r at hI ⊢;rcases hI with ⟨g1,g2⟩|⟨g1,g2,g3,g4,g5,new,v',g6,g7,g8,g9,g10,g11,g12,gT,gS⟩
      ·exact .inl ⟨g1,by rw[hf];exact g2⟩
      ·refine .inr ⟨g1,by omega,g3,λh=>hf.trans (g4 h),λh=>by rw[hf];exact g5 h,y::new,v++TT ts j::v',by rw[g6];simp,by simp,by simp;omega,?_,?_,?_,?_,?_⟩
       ·intro z hz
        rcases pi.1 hz with rfl|hz
        ·exact h6
        ·exact g9 z hz
       ·rw[h7,zN ts j hj,g10];simp
       ·intro t ht
        rcases pj.1 ht with ht|ht
        ·exact h9 t ht
        ·rcases pi.1 ht with rfl|ht
         ·show Vf (cA ts j);rw[aB];decide
         ·exact g11 t ht
       ·intro k st
        rw[tL,g12,aK,h5,iM,kU];show kU v' (eK false (k+1) _)=kU v' (zH (tA ts j) _);rw[hw,eK,u']
       ·exact⟨hT.join gT (.inl aB),h5,.inr ⟨v,TT ts j,v',rfl,aO,.inr ⟨aB,gS⟩⟩⟩
     ·simp only[e2]
      refine .inr ⟨rfl,h2,h3,?_,?_,[y],v,rfl,by simp,by simp;omega,?_,h7,h9,?_,hT,h5,.inl ⟨rfl,aO⟩⟩
      ·intro h
       have hj:=(bZ (by decide) h).1;have hx:uN st xF 0=bB:=(by rcases aG with rfl|rfl <;> rfl);exact h4.trans (uV hj h hx (by decide) rfl)
      ·intro h
       rw[h4];refine nB h3 (mO aN.1 aN.2.1 ?_) (.inr aN.2.2);rcases aM with rfl|⟨rfl,hs⟩
       ·rw[KZ];simp[hc,aB,h]
       ·rw[Jw];simp[hc,aB,h,hs]
      ·intro z hz;obtain rfl:=pr.1 hz;exact h6
      ·intro k st
       rw[tL,tL,aK,h5]
theorem M4(i:Nat):(xH P (i,true)).2=(i,true):=by
 simp only[xH,Cy,Dn,Ib,List.isEmpty_nil]
theorem MF(q:GS)(d:Int)(h:q.s.2=true):(yQ P n q d).2.s=q.s:=by
 cases n with
 | zero=>rfl
 | succ n =>
   obtain⟨⟨i,f⟩,nd,te,de⟩:=q;obtain rfl:f=true:=h;rw[yQ,Cy];simp only[Cy];show (xH P (i,true)).2=(i,true);rw[M4]
theorem Np(i:Nat):(vU P (i,true)).2.s=(i,true):=by
 unfold vU Yg dC kR;have h1:(yQ P P.length ⟨(i,true),[],0,0⟩ 0).2.s=(i,true):=MF P P.length ⟨(i,true),[],0,0⟩ 0 rfl;generalize yQ P P.length ⟨(i,true),[],0,0⟩ 0=y at h1 ⊢;have h2:(jK P (λq=>yQ P P.length q 0) xW 2 P.length y.1 y.2).2.s=(i,true):=(mP _ _ _ _ _ _ _ (by rw[h1])).trans h1;generalize jK P (λq=>yQ P P.length q 0) xW 2 P.length y.1 y.2=z at h2 ⊢;exact(mP _ _ _ _ _ _ _ (by rw[h2])).trans h2
theorem jC{P:List PT}{t:Bs}(h:s=(i,true)):zR P t s=(i,true):=by subst h;rfl
theorem FN{P:List PT}(h:s=(i,true)):(zI P s).2=(i,true):=by subst h;rfl
theorem KF{P:List PT}(h:s=(i,true)):(jS P s).2=(i,true):=by subst h;exact Li _ _ _ _ _
theorem nU{P:List PT}(h:s=(i,true)):(vU P s).2.s=(i,true):=by subst h;exact Np _ _
theorem qV{j:Nat}{v:Int}(h:s=(j,true))(hv:v=((yB (pp ts len) j).p:Int))(hi:FA ts len i pK 0=v):s.2=true/\FA ts len i pK 0=((yB (pp ts len) s.1).p:Int):=by
 subst h;exact⟨rfl,hi.trans hv⟩
def D2:Bs:=[110,117,109]
def Gh:Bs:=[102,108,97,103]
def Z9:Bs:=[111,118,101,114]
def KN:Bs:=[101,110,100]
def JM:Bs:=[108,97,115,116]
def Ey:Bs:=[102,114,111,109]
def E8:Bs:=[116,111]
def E1:Bs:=[116,105,108,108]
def C4:Bs:=[108,97,98,101,108]
def C5:Bs:=[99,111,108,111,110]
def Ez:Bs:=[104,101,97,100]
theorem Dg:jI pK=[D2,Gh,Z9,uH]:=by decide
structure zL9(x:zE)(u:yF)(w:Nat):Prop where
 E4:JA u 0=some w
 TK:5<w
 TM:w+1<u.length
 ae:tA u 3=x.ae
 ne:x.ae≠[]
 parts:gI (u.take w)+1=x.sum.length
 EZ:eD [] (u.take w)=x.sum.any jD
 J':∀k,k<w->cA u k=[42]->0<k/\cA u (k-1)=vD
 needs:rF ((u.take w).drop 5)=x.sum.flatMap Uq
 Hc:jJ xF (u.drop (w+1)) []=bK x.nd
 wt:eE (u.drop (w+1)) (x.tests,x.dep)
 gm:∀n,u.length<n->mB n (u.drop (w+1))=true
 sums:Av false x.sum ((u.take w).drop 5)
 gr:∃k y,Gr k (u.drop (w+1)) y x.nd x.root
structure LT(x:zE)(u:yF):Prop where
 two:2<=u.length
 TI:oW u
 name:tA u 1=x.name
 kind:(x.kind=1/\cA u 0=D2/\5<=u.length/\cA u 2=vD/\cA u 4=vD/\qQ 0 (tA u 2)=x.low/\qQ 0 (tA u 4)=x.high)\/(x.kind=2/\cA u 0=Gh) \/
  (x.kind=4/\cA u 0=Z9/\3<=u.length/\tA u 2=x.lower)\/(x.kind=3/\cA u 0=uH/\∃w,zL9 x u w)
theorem oW.get(h:oW ts)(hi:i<ts.length):BF (TT ts i).2:=h.at' hi
def ZT(ts:yF)(len i:Nat)(r:zE × St):Prop :=
 (r.2.2=true/\FA ts len i pK 0=((yB (pp ts len) r.2.1).p:Int)) \/
 (r.2.2=false/\i<r.2.1/\r.2.1<=ts.length/\FA ts len i pK 0=FA ts len r.2.1 pK 0/\bG r.1 /\
  ∃u e,ts.drop i=u++e::ts.drop r.2.1/\yE e.2=qM/\(∀t∈u,yE t.2≠qM) /\
   LT r.1 u/\∀n,ts.length<n->Bb n u/\∀out,rA r.1 (out,false)=(out++lI n u++[59,10],false))
theorem VS(s:Bs)(out:Bs):lU (zH s (out,false))=(out++s++[59,10],false):=rfl
theorem iO{n:Nat}{x:zE}{u:yF}(hu:u≠[])(hr:yE (u.getD 0 (0,[])).2≠uH)(hw:∀st,rA x st=lU (kU u st)) :
 Bb n u/\∀out,rA x (out,false)=(out++lI n u++[59,10],false):=by
 refine⟨⟨List.length_pos_iff.2 hu,λh=>x' h hr⟩,λout=>?_⟩;rw[hw,oI hu,VS,lI,tj hr]
theorem ZM{st t:Bs}(h0:i<=ts.length)(h1:st≠bI/\st≠mM/\st≠pK)(h2:jI st=[t])(hc:cA ts i≠t):FA ts len i st 0=((yB (pp ts len) i).p:Int) :=
 nB h0 (mO h1.1 h1.2.1 (by rw[h2];simpa using hc)) (.inr h1.2.2)
theorem BZ(a:Nat)(h:a<([]:List yT).length):0<=(aY [] a).num/\(aY [] a).num<=9999:=x' h (by simp)
theorem SN(aA:oW ts)(hi:i<ts.length)(hc:cA ts i=D2):ZT ts len i (kN (pp ts len) (i+1,false)):=by
 have hf:FA ts len i pK 0=FA ts len (i+1) D2 0:=uV hi hc rfl (by decide) rfl;rcases dZ (len:=len) (show i+1<=ts.length from hi) with ⟨c1,i1,e1⟩|⟨c1,e1⟩
 ·have f1:=hf.trans (uV i1 c1 (show uN D2 vC 0=Ey from rfl) (by decide) rfl)
  rcases Zt (len:=len) (show i+1+1<=ts.length from i1) with ⟨c2,i2,e2⟩|⟨c2,e2⟩
  ·have f2:=f1.trans (uV i2 c2 (show uN Ey vD 0=E8 from rfl) (by decide) rfl)
   obtain⟨v1,v2⟩:=KX (aA.at' i2) c2;rcases gU (len:=len) (t:=[46,46]) (show i+1+1+1<=ts.length from i2) (by decide) with ⟨c3,i3,e3⟩|⟨c3,e3⟩
   ·have f3:=f2.trans (uV i3 c3 (show uN E8 [46,46] 0=E1 from rfl) (by decide) rfl)
    have w3:=(bZ (by decide) c3).2;rcases Zt (len:=len) (show i+1+1+1+1<=ts.length from i3) with ⟨c4,i4,e4⟩|⟨c4,e4⟩
    ·have f4:=f3.trans (uV i4 c4 (show uN E1 vD 0=KN from rfl) (by decide) rfl)
     obtain⟨v3,v4⟩:=KX (aA.at' i4) c4;rcases gU (len:=len) (t:=[59]) (show i+1+1+1+1+1<=ts.length from i4) (by decide) with ⟨c5,i5,e5⟩|⟨c5,e5⟩
     ·have f5:=f4.trans (uV i5 c5 (show uN KN [59] 0=pK from rfl) (by decide) rfl)
      have w0:=(bZ (by decide) hc).2;simp only[kN,e1,e2,e3,e4,e5]
      refine .inr ⟨rfl,(by show i<i+1+1+1+1+1+1;omega),i5,f5,⟨.inl rfl,v1.1,v1.2,v3.1,v3.2,λa h=>BZ a h,by simp,aR,λh=>M' (show (1:Int)=3 from h)⟩,
       [TT ts i,TT ts (i+1),TT ts (i+1+1),TT ts (i+1+1+1),TT ts (i+1+1+1+1)],TT ts (i+1+1+1+1+1),?_,c5,?_,⟨by simp,?_,rfl,.inl ⟨rfl,hc,by simp,c2,c4,rfl,rfl⟩⟩,λn _=>iO (by simp) ?_ ?_⟩
      ·rw[zN ts i hi,zN ts (i+1) i1,zN ts (i+1+1) i2,zN ts (i+1+1+1) i3,zN ts (i+1+1+1+1) i4,zN ts (i+1+1+1+1+1) i5];rfl
      ·intro t ht
       simp only[pi,lq,df]at ht;rcases ht with rfl|rfl|rfl|rfl|rfl
       ·show cA ts i≠qM;rw[hc];decide
       ·show cA ts (i+1)≠qM;rw[c1];decide
       ·show cA ts (i+1+1)≠qM;rw[c2];decide
       ·show cA ts (i+1+1+1)≠qM;rw[c3];decide
       ·show cA ts (i+1+1+1+1)≠qM;rw[c4];decide
      ·intro t ht
       simp only[pi,lq,df]at ht;rcases ht with rfl|rfl|rfl|rfl|rfl
       ·exact aA.get hi
       ·exact aA.get i1
       ·exact aA.get i2
       ·exact aA.get i3
       ·exact aA.get i4
      ·show cA ts i≠uH;rw[hc];decide
      ·intro st
       show lU (jR (qQ 0 (tA ts (i+1+1+1+1))) (zH [46,46] (jR (qQ 0 (tA ts (i+1+1))) (zH (tA ts (i+1)) (zH D2 st)))))=lU (zH (tA ts (i+1+1+1+1)) (zH (tA ts (i+1+1+1)) (zH (tA ts (i+1+1)) (zH (tA ts (i+1)) (zH (tA ts i) st)))));rw[jR,jR,v2,v4,w3,w0]
     ·exact .inl (qV (by simp only[kN,e1,e2,e3,e4,e5]) (ZM (by omega) (by decide) (show jI KN=[[59]] by decide) c5) f4)
    ·exact .inl (qV (by simp only[kN,e1,e2,e3,e4,rS]) (ZM (by omega) (by decide) (show jI E1=[vD] by decide) c4) f3)
   ·exact .inl (qV (by simp only[kN,e1,e2,e3,Qc,rS]) (ZM (by omega) (by decide) (show jI E8=[[46,46]] by decide) c3) f2)
  ·exact .inl (qV (by simp only[kN,e1,e2,Qc,rS]) (ZM (by omega) (by decide) (show jI Ey=[vD] by decide) c2) f1)
 ·exact .inl (qV (by simp only[kN,e1,Qc,rS]) (ZM (by omega) (by decide) (show jI D2=[vC] by decide) c1) hf)
theorem ux(aA:oW ts)(hi:i<ts.length)(hc:cA ts i=Gh):ZT ts len i (jH (pp ts len) (i+1,false)):=by
 have hf:FA ts len i pK 0=FA ts len (i+1) JM 0:=uV hi hc rfl (by decide) rfl;rcases dZ (len:=len) (show i+1<=ts.length from hi) with ⟨c1,i1,e1⟩|⟨c1,e1⟩
 ·have f1:=hf.trans (uV i1 c1 (show uN JM vC 0=KN from rfl) (by decide) rfl)
  rcases gU (len:=len) (t:=[59]) (show i+1+1<=ts.length from i1) (by decide) with ⟨c5,i5,e5⟩|⟨c5,e5⟩
  ·have f5:=f1.trans (uV i5 c5 (show uN KN [59] 0=pK from rfl) (by decide) rfl)
   have w0:=(bZ (by decide) hc).2;simp only[jH,e1,e5]
   refine .inr ⟨rfl,(by show i<i+1+1+1;omega),i5,f5,⟨.inr (.inl rfl),by simp,by simp,by simp,by simp,λa h=>BZ a h,by simp,aR,λh=>M' (show (2:Int)=3 from h)⟩,
    [TT ts i,TT ts (i+1)],TT ts (i+1+1),?_,c5,?_,⟨by simp,?_,rfl,.inr (.inl ⟨rfl,hc⟩)⟩,λn _=>iO (by simp) ?_ ?_⟩
   ·rw[zN ts i hi,zN ts (i+1) i1,zN ts (i+1+1) i5];rfl
   ·intro t ht
    simp only[pi,lq,df]at ht;rcases ht with rfl|rfl
    ·show cA ts i≠qM;rw[hc];decide
    ·show cA ts (i+1)≠qM;rw[c1];decide
   ·intro t ht
    simp only[pi,lq,df]at ht;rcases ht with rfl|rfl
    ·exact aA.get hi
    ·exact aA.get i1
   ·show cA ts i≠uH;rw[hc];decide
   ·intro st
    show lU (zH (tA ts (i+1)) (zH Gh st))=lU (zH (tA ts (i+1)) (zH (tA ts i) st));rw[w0]
  ·exact .inl (qV (by simp only[jH,e1,e5]) (ZM (by omega) (by decide) (show jI KN=[[59]] by decide) c5) f1)
 ·exact .inl (qV (by simp only[jH,e1,rS]) (ZM (by omega) (by decide) (show jI JM=[vC] by decide) c1) hf)
theorem xe(aA:oW ts)(hi:i<ts.length)(hc:cA ts i=Z9):ZT ts len i (kA (pp ts len) (i+1,false)):=by
 have hf:FA ts len i pK 0=FA ts len (i+1) Z9 0:=uV hi hc rfl (by decide) rfl;rcases dZ (len:=len) (show i+1<=ts.length from hi) with ⟨c1,i1,e1⟩|⟨c1,e1⟩
 ·have f1:=hf.trans (uV i1 c1 (show uN Z9 vC 0=JM from rfl) (by decide) rfl)
  rcases dZ (len:=len) (show i+1+1<=ts.length from i1) with ⟨c2,i2,e2⟩|⟨c2,e2⟩
  ·have f2:=f1.trans (uV i2 c2 (show uN JM vC 0=KN from rfl) (by decide) rfl)
   rcases gU (len:=len) (t:=[59]) (show i+1+1+1<=ts.length from i2) (by decide) with ⟨c5,i5,e5⟩|⟨c5,e5⟩
   ·have f5:=f2.trans (uV i5 c5 (show uN KN [59] 0=pK from rfl) (by decide) rfl)
    have w0:=(bZ (by decide) hc).2;simp only[kA,e1,e2,e5]
    refine .inr ⟨rfl,(by show i<i+1+1+1+1;omega),i5,f5,⟨.inr (.inr (.inr rfl)),by simp,by simp,by simp,by simp,λa h=>BZ a h,by simp,aR,λh=>M' (show (4:Int)=3 from h)⟩,
     [TT ts i,TT ts (i+1),TT ts (i+1+1)],TT ts (i+1+1+1),?_,c5,?_,⟨by simp,?_,rfl,.inr (.inr (.inl ⟨rfl,hc,by simp,rfl⟩))⟩,λn _=>iO (by simp) ?_ ?_⟩
    ·rw[zN ts i hi,zN ts (i+1) i1,zN ts (i+1+1) i2,zN ts (i+1+1+1) i5];rfl
    ·intro t ht
     simp only[pi,lq,df]at ht;rcases ht with rfl|rfl|rfl
     ·show cA ts i≠qM;rw[hc];decide
     ·show cA ts (i+1)≠qM;rw[c1];decide
     ·show cA ts (i+1+1)≠qM;rw[c2];decide
    ·intro t ht
     simp only[pi,lq,df]at ht;rcases ht with rfl|rfl|rfl
     ·exact aA.get hi
     ·exact aA.get i1
     ·exact aA.get i2
    ·show cA ts i≠uH;rw[hc];decide
    ·intro st
     show lU (zH (tA ts (i+1+1)) (zH (tA ts (i+1)) (zH Z9 st)))=lU (zH (tA ts (i+1+1)) (zH (tA ts (i+1)) (zH (tA ts i) st)));rw[w0]
   ·exact .inl (qV (by simp only[kA,e1,e2,e5]) (ZM (by omega) (by decide) (show jI KN=[[59]] by decide) c5) f2)
  ·exact .inl (qV (by simp only[kA,e1,e2,rS]) (ZM (by omega) (by decide) (show jI JM=[vC] by decide) c2) f1)
 ·exact .inl (qV (by simp only[kA,e1,Dn,rS]) (ZM (by omega) (by decide) (show jI Z9=[vC] by decide) c1) hf)
theorem Fv(u:yF)(t:Nat × Bs)(v:yF)(hu:∀x∈u,yE x.2≠xF)(ht:yE t.2=xF):∀i,JA (u++t::v) i=some (i+u.length):=by
 induction u with
 | nil=>intro i;rw[lu,JA,tr ht];rfl
 | cons x r ih =>
   intro i;rw[li,JA,tj (hu x (bw ..)),ih (λy hy=>hu y (py _ hy)),pb];congr 1;omega
theorem ya{n:Nat}{x:zE}{h:yF}{w:Nat × Bs}{k:Nat}{y:Bs × Int}{N:List zJ}{a:Int}(hr:yE ((h++w::v).getD 0 (0,[])).2=uH)(hu:∀y∈h,yE y.2≠xF)(hw:yE w.2=xF)(ht:Gr k v y N a)(hn:v.length<n)
 (hx:∀st,rA x st=lU (zH y.1 (kU (h++[w]) st))) :
 Bb n (h++w::v)/\∀out,rA x (out,false)=(out++lI n (h++w::v)++[59,10],false):=by
 have e:eJ (h++w::v)=(h.length:Int):=by unfold eJ;rw[Fv h w v hu hw 0];simp
 have e1:(h++w::v).take (h.length+1)=h++[w]:=by
  rw[show h++w::v=(h++[w])++v by simp];exact List.take_left' (by simp)
 have e2:(h++w::v).drop (h.length+1)=v:=by
  rw[show h++w::v=(h++[w])++v by simp];exact List.drop_left' (by simp)
 obtain⟨t1,t2⟩:=I8 ht n hn;have hp:=ht.pos;refine⟨⟨by simp only[tm,pb];omega,λ_=>⟨by omega,?_,?_⟩⟩,λout=>?_⟩
 ·rw[e];simp only[tm,pb];omega
 ·rw[e,fm,e2];exact t2
 ·rw[hx,oI (by simp),<-mW,VS,lI,tr hr,e,fm,e1,e2,t1]
theorem ks{p a b c d e:Bs}{ta tb tc td te:Nat × Bs}(ha:yE ta.2=a)(hb:yE tb.2=b)(hc:yE tc.2=c)(hd:yE td.2=d)(he:yE te.2=e)(h:a≠[42]/\b≠[42]/\c≠[42]/\d≠[42]/\e≠[42]):eD p (ta::tb::tc::td::te::v)=eD te.2 v:=by
 subst ha hb hc hd he;simp only[eD];rw[ty h.1,ty h.2.1,ty h.2.2.1,ty h.2.2.2.1,ty h.2.2.2.2];simp
theorem zy{b c d e w:Nat × Bs}{gv:yF}{S:List yT}{nd:List zJ}{root te de:Int}{x:Bs × Int}{k:Nat}(ha:yE a.2=uH)(hb:yE b.2=vC)(hc:yE c.2=[58])(hd:yE d.2=vC)(he:yE e.2=[61])(hw:yE w.2=xF)
 (aL:∀t∈(a::b::c::d::e::v),yE t.2≠xF) (hv:0<v.length) (aS:d.2≠[]) (hS:J4 v S) (aZ:Av false S v) (hG:Gr k gv x nd root) (hW:Wt ⟨(i,false),[],0,0⟩ 0 ⟨(i,false),nd,te,de⟩ gv) :
 zL9 ⟨3,b.2,0,0,d.2,S,nd,root,te,de,[]⟩ ((a::b::c::d::e::v)++w::gv) (v.length+5):=by
 have hl:(a::b::c::d::e::v).length=v.length+5:=rfl;have e1:((a::b::c::d::e::v)++w::gv).take (v.length+5)=a::b::c::d::e::v:=List.take_left' hl
 have e2:((a::b::c::d::e::v)++w::gv).drop (v.length+5+1)=gv:=by
  rw[show (a::b::c::d::e::v)++w::gv=((a::b::c::d::e::v)++[w])++gv by simp];exact List.drop_left' (by simp)
 obtain⟨y,L,w1,w2,w3,w4,w5,w6⟩:=hW;simp only at w3 w4 w6
 have hy:y=(te,de):=by
  obtain⟨y1,y2⟩:=y;simp only at w2 w3 w4;have h1:y1=te:=by omega
  have h2:y2=de:=by omega
  rw[h1,h2]
 refine⟨?_,by omega,?_,rfl,aS,?_,?_,?_,?_,?_,?_,?_,by rw[e1];exact aZ,k,x,by rw[e2];exact hG⟩
 ·rw[Fv _ w gv aL hw 0,hl];simp
 ·have hp:=hG.pos;simp only[tm,pb];omega
 ·rw[e1]
  simp only[gI,ha,hb,hc,hd,he];rw[i6,i6,i6,i6];have:=hS.count;omega
 ·rw[e1,ks ha hb hc hd he (by decide)];exact hS.EZ _
 ·intro k hk aQ
  have aX:cA ((a::b::c::d::e::v)++w::gv) k=cA (a::b::c::d::e::v) k:=by
   unfold cA tA;rw[List.getD,List.getD,mj (by rw[hl];exact hk)]
  rw[aX]at aQ
  match k,hk,aQ with
  | 0,_,h=>exact M' (ha.symm.trans h)
  | 1,_,h=>exact M' (hb.symm.trans h)
  | 2,_,h=>exact M' (hc.symm.trans h)
  | 3,_,h=>exact M' (hd.symm.trans h)
  | 4,_,h=>exact M' (he.symm.trans h)
  | k+5,hk,h =>
    obtain⟨h1,h2⟩:=hS.star k (by omega) h;refine⟨by omega,?_⟩;obtain⟨m,rfl⟩:∃m,k=m+1:=⟨k-1,by omega⟩
    have aW:cA ((a::b::c::d::e::v)++w::gv) (m+5)=cA (a::b::c::d::e::v) (m+5):=by
     unfold cA tA;rw[List.getD,List.getD,mj (by rw[hl];omega)]
    show cA _ (m+5)=vD;rw[aW];exact h2
 ·rw[e1];exact hS.needs
 ·rw[e2,w5 xF [] ⟨by decide,by decide⟩ (by decide),w6];rfl
 ·rw[e2,<-hy];exact w1
 ·intro n hn
  rw[e2];refine(I8 hG n ?_).2;simp only[tm,pb]at hn;omega
theorem yb(aA:oW ts)(aH:ts.length<=4000)(hi:i<ts.length)(hc:cA ts i=uH):ZT ts len i (jG (pp ts len) (i+1,false)):=by
 have hf:FA ts len i pK 0=FA ts len (i+1) uH 0:=uV hi hc rfl (by decide) rfl;have w0:=(bZ (by decide) hc).2;rcases dZ (len:=len) (show i+1<=ts.length from hi) with ⟨c1,i1,e1⟩|⟨c1,e1⟩
 rotate_left
 ·exact .inl (qV (jC (nU (jC (KF (jC (FN (jC (by rw[e1])))))))) (ZM (by omega) (by decide) (show jI uH=[vC] by decide) c1) hf)
 have f1:=hf.trans (uV i1 c1 (show uN uH vC 0=C4 from rfl) (by decide) rfl);rcases gU (len:=len) (t:=[58]) (show i+1+1<=ts.length from i1) (by decide) with ⟨c2,i2,e2⟩|⟨c2,e2⟩
 rotate_left
 ·exact .inl (qV (jC (nU (jC (KF (jC (FN (by rw[e1,e2]))))))) (ZM (by omega) (by decide) (show jI C4=[[58]] by decide) c2) f1)
 have f2:=f1.trans (uV i2 c2 (show uN C4 [58] 0=C5 from rfl) (by decide) rfl);have w2:=(bZ (by decide) c2).2;rcases dZ (len:=len) (show i+1+1+1<=ts.length from i2) with ⟨c3,i3,e3⟩|⟨c3,e3⟩
 rotate_left
 ·exact .inl (qV (jC (nU (jC (KF (jC (by rw[e1,e2,e3])))))) (ZM (by omega) (by decide) (show jI C5=[vC] by decide) c3) f2)
 have f3:=f2.trans (uV i3 c3 (show uN C5 vC 0=Ez from rfl) (by decide) rfl);rcases gU (len:=len) (t:=[61]) (show i+1+1+1+1<=ts.length from i3) (by decide) with ⟨c4,i4,e4⟩|⟨c4,e4⟩
 rotate_left
 ·exact .inl (qV (jC (nU (jC (KF (by rw[e1,e2,e3,e4]))))) (ZM (by omega) (by decide) (show jI Ez=[[61]] by decide) c4) f3)
 have f4:=f3.trans (uV i4 c4 (show uN Ez [61] 0=fU from rfl) (by decide) rfl);have w4:=(bZ (by decide) c4).2;have hS:=O0 (len:=len) aA (pp ts len).length (i+1+1+1+1+1) false [] i4 (by rw[iN];omega);simp only[jG,e1,e2,e3,e4];have eS:jS (pp ts len) (i+1+1+1+1+1,false)=tB (pp ts len) (pp ts len).length false (i+1+1+1+1+1,false) []:=rfl;rw[eS];generalize tB (pp ts len) (pp ts len).length false (i+1+1+1+1+1,false) []=r at hS ⊢;obtain⟨S,⟨j,f⟩⟩:=r;rcases hS with ⟨g1,g2⟩|⟨g1,g2,g3,g4,g5,new,v,g6,g7,g8,g9,g10,g11,g12,gT,gS⟩
 ·simp only at g1;subst g1
  exact .inl (qV (jC (nU (jC rfl))) g2 f4)
 simp only[lu]at g1 g2 g3 g4 g5 g6 g10;subst g1 g6;rcases gU (len:=len) (t:=xF) g3 (by decide) with ⟨c5,i5,e5⟩|⟨c5,e5⟩
 rotate_left
 ·exact .inl (qV (jC (nU e5)) (g5 c5) f4)
 have f5:=f4.trans (g4 c5);have w5:=(bZ (by decide) c5).2;simp only[e5];have hG:=uo (len:=len) aA (show j+1<=ts.length from i5);generalize vU (pp ts len) (j+1,false)=y at hG ⊢;obtain⟨root,⟨⟨m,f⟩,nd,te,de⟩⟩:=y;rcases hG with ⟨k1,k2⟩|⟨k1,k2,k3,k4,k5,k6,k7,k8,gv,x,k9,aI,aV⟩
 ·simp only at k1;subst k1
  exact .inl (qV (jC rfl) k2 f5)
 simp only at k1 k2 k3 k4 k6 k7 k8 k9 aI;subst k1;have f6:=f5.trans k4;rcases gU (len:=len) (t:=[59]) k3 (by decide) with ⟨c7,i7,e7⟩|⟨c7,e7⟩
 rotate_left
 ·exact .inl (qV (by simp only[e7]) (nB k3 (Yu (k8 (by decide)) (k7 (by decide)) (λ_=>rfl) (λe=>x' e c7)) (.inr (by decide))) f6)
 have f7:=f6.trans (uV i7 c7 (show uN mM [59] 0=pK from rfl) (by decide) rfl);simp only[e7];have hb:=k9.bound
 have ag:v.length<=ts.length:=by
  have h1:=gk List.length g10;simp only[tm,cp]at h1;omega
 have af:gv.length<=ts.length:=by
  have h1:=gk List.length aI;simp only[tm,cp]at h1;omega
 refine .inr ⟨rfl,(by show i<m+1;omega),i7,f7,⟨.inr (.inr (.inl rfl)),by simp,by simp,by simp,by simp,?_,(by show S.length<=10000;omega),k6,λ_=>⟨g7,hb.1,hb.2⟩⟩,
  (TT ts i::TT ts (i+1)::TT ts (i+1+1)::TT ts (i+1+1+1)::TT ts (i+1+1+1+1)::v)++TT ts j::gv,TT ts m,?_,c7,?_,?_,λn hn=>ya ?_ ?_ c5 k9 (by omega) ?_⟩
 ·intro a ha
  have ha':a<S.length:=ha;show 0<=(aY S a).num/\(aY S a).num<=9999;unfold aY;rw[List.getD,pm ha'];exact g9 _ (dq ha')
 ·rw[zN ts i hi,zN ts (i+1) i1,zN ts (i+1+1) i2,zN ts (i+1+1+1) i3,zN ts (i+1+1+1+1) i4,g10,zN ts j i5,aI,zN ts m i7]
  simp
 ·intro t ht
  rcases pj.1 ht with ht|ht
  ·simp only[pi]at ht
   rcases ht with rfl|rfl|rfl|rfl|rfl|ht
   ·show cA ts i≠qM;rw[hc];decide
   ·show cA ts (i+1)≠qM;rw[c1];decide
   ·show cA ts (i+1+1)≠qM;rw[c2];decide
   ·show cA ts (i+1+1+1)≠qM;rw[c3];decide
   ·show cA ts (i+1+1+1+1)≠qM;rw[c4];decide
   ·exact(g11 t ht).1
  ·rcases pi.1 ht with rfl|ht
   ·show cA ts j≠qM;rw[c5];decide
   ·exact k9.EB t ht
 ·have hg0:0<v.length:=by omega
  have aL:∀t∈(TT ts i::TT ts (i+1)::TT ts (i+1+1)::TT ts (i+1+1+1)::TT ts (i+1+1+1+1)::v),yE t.2≠xF:=by
   intro t ht;simp only[pi]at ht;rcases ht with rfl|rfl|rfl|rfl|rfl|ht
   ·show cA ts i≠xF;rw[hc];decide
   ·show cA ts (i+1)≠xF;rw[c1];decide
   ·show cA ts (i+1+1)≠xF;rw[c2];decide
   ·show cA ts (i+1+1+1)≠xF;rw[c3];decide
   ·show cA ts (i+1+1+1+1)≠xF;rw[c4];decide
   ·exact(g11 t ht).2
  refine⟨by simp,?_,rfl,.inr (.inr (.inr ⟨rfl,hc,v.length+5,zy hc c1 c2 c3 c4 c5 aL hg0 (aA.at' i3).1 gT gS k9 aV⟩))⟩
  have hall:(TT ts i::TT ts (i+1)::TT ts (i+1+1)::TT ts (i+1+1+1)::TT ts (i+1+1+1+1)::v)++TT ts j::gv++TT ts m::ts.drop (m+1)=ts.drop i:=by
   rw[zN ts i hi,zN ts (i+1) i1,zN ts (i+1+1) i2,zN ts (i+1+1+1) i3,zN ts (i+1+1+1+1) i4,g10,zN ts j i5,aI,zN ts m i7];simp
  intro t ht;refine aA t (List.mem_of_mem_drop (i:=i) ?_);rw[<-hall];exact List.mem_append_left _ ht
 ·show cA ts i=uH;exact hc
 ·intro t ht
  simp only[pi]at ht;rcases ht with rfl|rfl|rfl|rfl|rfl|ht
  ·show cA ts i≠xF;rw[hc];decide
  ·show cA ts (i+1)≠xF;rw[c1];decide
  ·show cA ts (i+1+1)≠xF;rw[c2];decide
  ·show cA ts (i+1+1+1)≠xF;rw[c3];decide
  ·show cA ts (i+1+1+1+1)≠xF;rw[c4];decide
  ·exact(g11 t ht).2
 ·intro st
  show lU (vJ nd nd.length root.toNat (zH xF (tL S 0 (zH [61] (zH (tA ts (i+1+1+1)) (zH [58] (zH (tA ts (i+1)) (zH uH st))))))))=_;rw[E5 k9 nd.length _ (by omega),g12,iM];show _=lU (zH x.1 (zH (tA ts j) (kU v (zH (tA ts (i+1+1+1+1)) (zH (tA ts (i+1+1+1)) (zH (tA ts (i+1+1)) (zH (tA ts (i+1)) (zH (tA ts i) st))))))));rw[w0,w2,w4,w5];rfl
theorem UH(aA:oW ts)(aH:ts.length<=4000)(hi:i<ts.length):ZT ts len i (vP (pp ts len) (i,false)):=by
 unfold vP;rcases cE (len:=len) (t:=[110,117,109]) (p7 hi) (by decide) with ⟨c1,_,e1⟩|⟨c1,e1⟩
 ·simp only[e1];exact SN aA hi c1
 simp only[e1];rcases cE (len:=len) (t:=[102,108,97,103]) (p7 hi) (by decide) with ⟨c2,_,e2⟩|⟨c2,e2⟩
 ·simp only[e2];exact ux aA hi c2
 simp only[e2];rcases cE (len:=len) (t:=[114,117,108,101]) (p7 hi) (by decide) with ⟨c3,_,e3⟩|⟨c3,e3⟩
 ·simp only[e3];exact yb aA aH hi c3
 simp only[e3];rcases gU (len:=len) (t:=[111,118,101,114]) (p7 hi) (by decide) with ⟨c4,_,e4⟩|⟨c4,e4⟩
 ·simp only[e4];exact xe aA hi c4
 simp only[e4];refine .inl (qV (j:=i) (by simp only[kA,Dn,rS]) ?_ rfl);exact nB (p7 hi) (mO (by decide) (by decide) (by rw[Dg];simp only[pi,lq,df];rintro(h|h|h|h);exact c1 h;exact c2 h;exact c4 h;exact c3 h)) (.inl hi)
theorem UG(u:yF)(e:Nat × Bs)(r:yF)(hu:∀t∈u,yE t.2≠qM)(he:yE e.2=qM):∀k a,tJ (u++e::r) k a=(a,k+u.length-a)::tJ r (k+u.length+1) (k+u.length+1):=by
 induction u with
 | nil=>intro k a;rw[lu,tJ,tr he];rfl
 | cons t u ih =>
   intro k a;rw[li,tJ,tj (hu t (bw ..)),ih (λx hx=>hu x (py _ hx)),pb,show k+1+u.length=k+(u.length+1) by omega]
theorem FY(j:Nat)(acc:List zE):(jT P n (j,true) acc).2=(j,true):=by
 cases n <;> rfl
def Ej:List zE->List yF->Prop
 | [],[]=>True
 | x::xs,u::us=>LT x u/\Ej xs us
 | _,_=>False
theorem Ev(hi:i<=ts.length):(yB (pp ts len) i).k=0 ↔ i=ts.length:=by
 constructor
 ·intro h
  rcases mc i ts.length with h1|h1
  ·rw[oQ h1]at h
   have h':yG (tA ts i)=0:=h;rcases aU (tA ts i) with ⟨h2,_⟩|⟨h2,_⟩|⟨h2,_⟩|⟨h2,_⟩ <;> omega
  ·omega
 ·rintro rfl;rw[aT]
def BP(ts:yF)(len i:Nat)(acc:List zE)(r:List zE × St):Prop :=
 (r.2.2=true/\FA ts len i pK 0=((yB (pp ts len) r.2.1).p:Int)) \/
 (r.2.2=false/\FA ts len i pK 0<0/\∃new,r.1=acc++new/\(∀x∈new,bG x)/\Ej new ((tJ (ts.drop i) i i).map (XO ts)) /\
  ∀n,ts.length<n->(∀p∈tJ (ts.drop i) i i,Bb n (XO ts p))/\∀out,ZZ new (out,false)=(XC n ts (tJ (ts.drop i) i i) out,false))
theorem vr(aA:oW ts)(aH:ts.length<=4000)(n:Nat):∀(i:Nat) (acc:List zE),i<=ts.length->Zb (pp ts len) (i,false)<=n->BP ts len i acc (jT (pp ts len) n (i,false) acc):=by
 induction n with
 | zero=>intro i acc hi h;unfold Zb at h;rw[iN]at h;simp only at h;omega
 | succ n ih =>
   intro i acc hi hn;rw[jT];simp only;by_cases hk:(yB (pp ts len) i).k=0
   ·rw[tr hk]
    obtain rfl:=(Ev hi).1 hk;refine .inr ⟨rfl,?_,[],by simp,by simp,?_,λn _=>⟨?_,?_⟩⟩
    ·unfold FA;rw[List.drop_length,fE,tr rfl];decide
    ·rw[List.drop_length,tJ];trivial
    ·intro p hp;rw[List.drop_length,tJ]at hp;simp at hp
    ·intro out;rw[List.drop_length,tJ];rfl
   ·rw[tj hk]
    have hi':i<ts.length:=by
     rcases mc i ts.length with h|h
     ·exact h
     ·exact x' ((Ev (len:=len) hi).2 (by omega)) hk
    have hg:=JC (P:=pp ts len) (s:=(i,false)) rfl (by rw[iN];show i<ts.length+1;omega);have hL:=UH (len:=len) aA aH hi';generalize vP (pp ts len) (i,false)=r at hL hg ⊢;obtain⟨x,⟨j,f⟩⟩:=r;rcases hL with ⟨h1,h2⟩|⟨h1,h2,h3,h4,h5,u,e,h6,h7,h8,aa,h9⟩
    ·simp only at h1;subst h1
     refine .inl ?_;rw[FY];exact⟨rfl,h2⟩
    ·simp only at h1 h2 h3 h4 h5 h6 h9;subst h1
     have hI:=ih j (acc++[x]) h3 (by simp only at hg;omega)
     have hj:i+u.length+1=j:=by
      have h:=gk List.length h6;simp only[tm,cp,pb]at h;omega
     have hl:tJ (ts.drop i) i i=(i,u.length)::tJ (ts.drop j) j j:=by
      rw[h6,UG u e _ h8 h7,hj,show i+u.length-i=u.length by omega]
     have hs:XO ts (i,u.length)=u:=by
      unfold XO;rw[h6];exact List.take_left' rfl
     rcases hI with ⟨g1,g2⟩|⟨g1,g2,new,g3,g4,gL,g5⟩
     ·exact .inl ⟨g1,by rw[h4];exact g2⟩
     ·refine .inr ⟨g1,by rw[h4];exact g2,x::new,by rw[g3];simp,?_,?_,λn hn=>?_⟩
      ·intro y hy
       rcases pi.1 hy with rfl|hy
       ·exact h5
       ·exact g4 y hy
      ·rw[hl,cf,hs];exact⟨aa,gL⟩
      ·obtain⟨a1,a2⟩:=h9 n hn
       obtain⟨b1,b2⟩:=g5 n hn;rw[hl];refine⟨?_,λout=>?_⟩
       ·intro p hp
        rcases pi.1 hp with rfl|hp
        ·rw[hs];exact a1
        ·exact b1 p hp
       ·rw[ZZ,a2,b2,XC,hs]
theorem KS:∀s acc,(jT P n s acc).1.length<=acc.length+n:=by
 induction n with
 | zero=>intro s acc;exact tg _
 | succ n ih =>
   intro s acc;rw[jT];split
   ·simp only;omega
   ·split
    ·simp only;omega
    ·have:=ih (vP P s).2 (acc++[(vP P s).1])
     simp only[tm,pu]at this;omega
theorem GV(ts:yF)(ps:List (Nat × Nat)):∀s,(XC n ts ps s).length<=s.length+YT ts ps:=by
 induction ps with
 | nil=>intro s;simp[XC,YT]
 | cons p r ih =>
   intro s;rw[XC,YT];have h1:=ih (s++lI n (XO ts p)++[59,10]);have h2:=Vk n (XO ts p);simp only[tm,pb,ge]at h1;omega
structure zP3(l:Bs):Prop where
 place:(yZ l).2.2=true->YN l=((yB (rB l) (yZ l).2.1).p:Int)
 lines:(yZ l).2.2=false->Ej (yZ l).1 ((Yi (xI l 0)).map (XO (xI l 0)))
theorem yu{n:Nat}{l:Bs}(hl:l.length<=4000)(hn:4000<n):zFV n l/\zP3 l:=by
 have ht:(xI l 0).length<=4000:=tu (oE l 0) hl;have eP:rB l=pp (xI l 0) l.length:=rfl;have eF:FA (xI l 0) l.length 0 pK 0=YN l:=rfl;have hR:=vr (len:=l.length) (JB l) ht (2*(rB l).length+1) 0 [] (p8) (by rw[eP];unfold Zb;simp only;omega);rw[<-eP]at hR;have eR:jT (rB l) (2*(rB l).length+1) (0,false) []=yZ l:=rfl;rw[eR]at hR;unfold BP at hR;rw[eF,<-eP]at hR
 have hm:(yZ l).1.length<=10000:=by
  have:=KS (rB l) (2*(rB l).length+1) (0,false) [];rw[eR,eP,iN]at this;simp only[ge]at this;omega
 have hs:(X9 n l).length<=tS:=by
  have h1:=GV n (xI l 0) (Yi (xI l 0)) [];have h2:=qt (xI l 0);have h3:=GU l;unfold X9 tS;simp only[ge]at h1;omega
 rcases hR with ⟨h1,h2⟩|⟨h1,h2,new,h3,h4,hA,h5⟩
 ·refine⟨⟨λ_=>by rw[h2];exact nf _,λh=>?_,λh=>?_,hm,λh=>?_,hs,λh=>?_⟩,λ_=>h2,λh=>?_⟩
  ·rw[h1]at h;exact M' h
  ·rw[h1]at h;exact M' h
  ·rw[h1]at h;exact M' h
  ·rw[h2]at h;exact x' h (by omega)
  ·rw[h1]at h;exact M' h
 ·obtain⟨a1,a2⟩:=h5 n (by omega)
  rw[lu]at h3;refine⟨⟨λh=>?_,λ_=>h2,λ_=>?_,hm,λ_=>?_,hs,λ_=>a1⟩,λh=>?_,λ_=>?_⟩
  ·rw[h1]at h;exact M' h
  ·rw[h3];exact h4
  ·rw[h3,a2];rfl
  ·rw[h1]at h;exact M' h
  ·rw[h3];exact hA
end Go.Proofs.YtnbpdffdnphbeabGreatDoor
