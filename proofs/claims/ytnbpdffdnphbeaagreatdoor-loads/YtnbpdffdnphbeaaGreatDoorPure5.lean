import Derived.Test.YtnbpdffdnphbeaaGreatDoorPWeight
namespace Go.Proofs.YtnbpdffdnphbeaaGreatDoor
variable{i:Nat}{a:Nat × Bs}{s:St}{ts v:zG}(P:List PT)(n:Nat)(m:Bool)
def fS:Bs:=[112,97,114,116]
def sY:Bs:=[112,97,114,116,101,100]
def gW:Bs:=[99,111,117,110,116,101,100]
def uf:Bs:=[116,105,109,101,115]
theorem Cd:jQ fS=[yT,yA]:=by decide
theorem Km:jQ sY=[[43],[45],xO]:=by decide
theorem QA:jQ gW=[[42],[43],[45],xO]:=by decide
theorem V4:jQ uf=[yT]:=by decide
abbrev Kr(c:Bs):Prop:=c≠qN/\c≠xO
def JJ(x:yX)(v:zG):Prop :=
 (∃a b c,v=[a,b,c]/\zR a.2=yA/\zR b.2=[42]/\zR c.2=yT/\c.2≠[]/\x.starred=true/\x.num=xF 0 a.2/\x.name=c.2) \/
 (∃a,v=[a]/\zR a.2=yA/\x.starred=false/\x.num=xF 0 a.2/\x.name=[]) \/
 (∃a,v=[a]/\zR a.2=yT/\a.2≠[]/\x.starred=false/\x.num=0/\x.name=a.2)
def UI:Bool->List yX->zG->Prop
 | _,[],_=>False
 | m,x::r,v=>x.minus=m/\((r=[]/\JJ x v)\/∃v1 t v2,v=v1++t::v2/\JJ x v1/\((zR t.2=[45]/\UI true r v2)\/(zR t.2=[43]/\UI false r v2)))
def zEN(ts:zG)(len i:Nat)(m:Bool)(r:yX × St):Prop :=
 (r.2.2=true/\FA ts len i fS 0=((yV (pp ts len) r.2.1).p:Int)) \/
 (r.2.2=false/\i<r.2.1/\r.2.1<=ts.length/\(∃st,(st=sY\/st=gW/\cA ts r.2.1≠[42])/\FA ts len i fS 0=FA ts len r.2.1 st 0)/\r.1.minus=m/\(0<=r.1.num/\r.1.num<=9999) /\
  ∃v,ts.drop i=v++ts.drop r.2.1/\0<v.length/\(∀t∈v,Kr (zR t.2))/\(∀st,Df r.1 st=kY v st)/\QL v [r.1]/\JJ r.1 v)
theorem Bj{b c:Nat × Bs}(ha:zR a.2=yA)(hb:zR b.2=[42])(hc:zR c.2=yT)(hn:c.2≠[])(m:Bool):QL [a,b,c] [⟨m,true,xF 0 a.2,c.2⟩]:=by
 refine⟨?_,?_,?_,?_⟩
 ·simp only[cI,ha,hb,hc]
  rw[tg (by decide),tg (by decide),tj trivial];simp[rR,hn]
 ·simp only[kH,ha,hb,hc]
  rw[tg (by decide),tg (by decide),tg (by decide)];rfl
 ·intro p
  simp only[mK,ha,hb,hc];rw[th (by decide:¬yA=[42]),th (by decide:¬yT=[42])];simp[tC]
 ·intro k hk h
  have:k=0\/k=1\/k=2:=by simp at hk;omega
  rcases this with rfl|rfl|rfl
  ·exact absurd (ha.symm.trans h) (by decide)
  ·exact⟨by decide,ha⟩
  ·exact absurd (hc.symm.trans h) (by decide)
theorem vu(ha:zR a.2=yA)(m:Bool):QL [a] [⟨m,false,xF 0 a.2,[]⟩]:=by
 refine⟨?_,?_,?_,?_⟩
 ·simp only[cI,ha];rw[tg (by decide)];simp[rR]
 ·simp only[kH,ha];rw[tg (by decide)];rfl
 ·intro p;simp only[mK,ha];rw[th (by decide:¬yA=[42])];simp[tC]
 ·intro k hk h
  obtain rfl:k=0:=by simp at hk;exact hk
  exact absurd (ha.symm.trans h) (by decide)
theorem F0(ha:zR a.2=yT)(hn:a.2≠[])(m:Bool):QL [a] [⟨m,false,0,a.2⟩]:=by
 refine⟨?_,?_,?_,?_⟩
 ·simp only[cI,ha];rw[tj trivial];simp[rR,hn]
 ·simp only[kH,ha];rw[tg (by decide)];rfl
 ·intro p;simp only[mK,ha];rw[th (by decide:¬yT=[42])];simp[tC]
 ·intro k hk h
  obtain rfl:k=0:=by simp at hk;exact hk
  exact absurd (ha.symm.trans h) (by decide)
theorem zD2(zJ1:fM ts)(hi:i<ts.length):(tA ts i).isEmpty=false:=by
 have:=(zJ1.at' hi).1
 cases hx:tA ts i with
 | nil=>exact absurd hx this
 | cons a b=>rfl
theorem qa{len:Nat}(zJ1:fM ts)(h:i<=ts.length)(m:Bool):zEN ts len i m (qI (pp ts len) m (i,false)):=by
 rcases wZ (len:=len) h with ⟨hc,hi,e⟩|⟨hc,e⟩
 ·have e0:=YT (len:=len) h false
  rw[tm hc]at e0;obtain⟨v1,v2⟩:=X2 (zJ1.at' hi) hc;have hf:FA ts len i fS 0=FA ts len (i+1) gW 0:=uX hi hc rfl (by decide) rfl;rcases cS (len:=len) (show i+1<=ts.length from hi) (t:=[42]) (by decide) with ⟨hc2,hi2,e2⟩|⟨hc2,e2⟩
  ·have hw:=(cN (by decide) hc2).2
   have hf2:FA ts len i fS 0=FA ts len (i+1+1) uf 0:=hf.trans (uX hi2 hc2 rfl (by decide) rfl);rcases fE (len:=len) (show i+1+1<=ts.length from hi2) with ⟨hc3,hi3,e3⟩|⟨hc3,e3⟩
   ·have e':qI (pp ts len) m (i,false)=(⟨m,true,xF 0 (tA ts i),tA ts (i+1+1)⟩,(i+1+1+1,false)):=by
     simp only[qI,e0,e,e2,e3]
    rw[e'];refine .inr ⟨rfl,(by show i<i+1+1+1;omega),hi3,⟨sY,.inl rfl,hf2.trans (uX hi3 hc3 rfl (by decide) rfl)⟩,rfl,v1,[TT ts i,TT ts (i+1),TT ts (i+1+1)],?_,by simp,?_,?_,Bj hc hc2 hc3 (zJ1.at' hi3).1 m,.inl ⟨_,_,_,rfl,hc,hc2,hc3,(zJ1.at' hi3).1,rfl,rfl,rfl⟩⟩
    ·rw[zJ ts i hi,zJ ts (i+1) hi2,zJ ts (i+1+1) hi3];rfl
    ·intro t ht
     simp only[pi,ld,dn]at ht;rcases ht with rfl|rfl|rfl
     ·show Kr (cA ts i);rw[hc];decide
     ·show Kr (cA ts (i+1));rw[hc2];decide
     ·show Kr (cA ts (i+1+1));rw[hc3];decide
    ·intro st
     show yU (tA ts (i+1+1)) (yU [42] (eK (xF 0 (tA ts i)) st))=yU (tA ts (i+1+1)) (yU (tA ts (i+1)) (yU (tA ts i) st));rw[eK,v2,hw]
   ·have e':(qI (pp ts len) m (i,false)).2=(i+1+1,true):=by
     simp only[qI,e0,e,e2,e3]
    refine .inl ⟨by rw[e'],?_⟩;rw[e',hf2];exact gP hi2 (mT (by decide) (by decide) (by rw[V4];simpa using hc3)) (.inr (by decide))
  ·have e':qI (pp ts len) m (i,false)=(⟨m,false,xF 0 (tA ts i),[]⟩,(i+1,false)):=by
    simp only[qI,e0,e,e2]
   rw[e'];refine .inr ⟨rfl,(by show i<i+1;omega),hi,⟨gW,.inr ⟨rfl,hc2⟩,hf⟩,rfl,v1,[TT ts i],zJ ts i hi,by simp,?_,?_,vu hc m,.inr (.inl ⟨_,rfl,hc,rfl,rfl,rfl⟩)⟩
   ·intro t ht;obtain rfl:=pu.1 ht
    show Kr (cA ts i);rw[hc];decide
   ·intro st
    show eK (xF 0 (tA ts i)) st=yU (tA ts i) st;rw[eK,v2]
 ·have e0:=YT (len:=len) h false
  rw[th hc]at e0;rcases fE (len:=len) h with ⟨hc3,hi3,e3⟩|⟨hc3,e3⟩
  ·have e':qI (pp ts len) m (i,false)=(⟨m,false,0,tA ts i⟩,(i+1,false)):=by
    simp only[qI,e0,e3]
   rw[e'];refine .inr ⟨rfl,(by show i<i+1;omega),hi3,⟨sY,.inl rfl,uX hi3 hc3 rfl (by decide) rfl⟩,rfl,by simp,[TT ts i],zJ ts i hi3,by simp,?_,?_,F0 hc3 (zJ1.at' hi3).1 m,.inr (.inr ⟨_,rfl,hc3,(zJ1.at' hi3).1,rfl,rfl,rfl⟩)⟩
   ·intro t ht;obtain rfl:=pu.1 ht
    show Kr (cA ts i);rw[hc3];decide
   ·intro st
    show Df ⟨m,false,0,tA ts i⟩ st=yU (tA ts i) st;simp only[Df,zD2 zJ1 hi3]
  ·have e':(qI (pp ts len) m (i,false)).2=(i,true):=by
    simp only[qI,e0,e3]
   refine .inl ⟨by rw[e'],?_⟩;rw[e'];exact gP h (mT (by decide) (by decide) (by rw[Cd];simp[hc,hc3])) (.inr (by decide))
theorem zG1(i:Nat):(qI P m (i,true)).2=(i,true):=by
 unfold qI;split <;> rfl
theorem zHT(i:Nat)(ps:List yX):(dE P n m (i,true) ps).2=(i,true):=by
 cases n with
 | zero=>rfl
 | succ n =>
   rw[dE,zG1];rfl
def zGZ(ts:zG)(len i:Nat)(m:Bool)(ps:List yX)(r:List yX × St):Prop :=
 (r.2.2=true/\FA ts len i fS 0=((yV (pp ts len) r.2.1).p:Int)) \/
 (r.2.2=false/\i<r.2.1/\r.2.1<=ts.length/\(cA ts r.2.1=xO->FA ts len i fS 0=FA ts len (r.2.1+1) bK 0)/\(cA ts r.2.1≠xO->FA ts len i fS 0=((yV (pp ts len) r.2.1).p:Int)) /\
  ∃new v,r.1=ps++new/\0<new.length/\new.length<=v.length/\(∀y∈new,0<=y.num/\y.num<=9999)/\ts.drop i=v++ts.drop r.2.1/\(∀t∈v,Kr (zR t.2)) /\
   (∀k st,Yf new k st=kY v (De m k st))/\QL v new/\UI m new v)
theorem vt{st:Bs}{c:Bs}(h:st=sY\/st=gW)(hc:c=[45]\/c=[43]):zO st c 0=fS/\opn c 0=0:=by
 rcases h with rfl|rfl <;> rcases hc with rfl|rfl <;> exact⟨rfl,rfl⟩
theorem zC5{len:Nat}(zJ1:fM ts)(n:Nat):∀(i:Nat) (m:Bool) (ps:List yX),i<=ts.length->ts.length+1-i<=n->zGZ ts len i m ps (dE (pp ts len) n m (i,false) ps):=by
 induction n with
 | zero=>intro i m ps h1 h2;omega
 | succ n ih =>
   intro i m ps hi hn;rw[dE];have hP:=qa (len:=len) zJ1 hi m;generalize qI (pp ts len) m (i,false)=r at hP ⊢;obtain⟨y,⟨j,f⟩⟩:=r;rcases hP with ⟨h1,h2⟩|⟨h1,h2,h3,⟨st,zIU,h4⟩,h5,h6,v,h7,h8,h9,h10,hT,hPT⟩
   ·simp only at h1;subst h1
    exact .inl ⟨rfl,h2⟩
   ·simp only at h1 h2 h3 zIU h4 h5 h6 h7 h10;subst h1
    have hst':st=sY\/st=gW:=by rcases zIU with h|h;exact .inl h;exact .inr h.1
    have hsd:st≠uQ/\st≠qF/\st≠jH:=by rcases hst' with rfl|rfl <;> decide
    rcases cS (len:=len) h3 (t:=[45]) (by decide) with ⟨hc,hj,e⟩|⟨hc,e⟩
    ·simp only[e]
     have hw:=(cN (by decide) hc).2;obtain⟨n1,n2⟩:=vt hst' (.inl rfl);have hf:FA ts len i fS 0=FA ts len (j+1) fS 0:=h4.trans (uX hj hc n1 (by decide) n2);have hI:=ih (j+1) true (ps++[y]) hj (by omega);generalize dE (pp ts len) n true (j+1,false) (ps++[y])=r at hI ⊢;rcases hI with ⟨g1,g2⟩|⟨g1,g2,g3,g4,g5,new,v',g6,g7,g8,g9,g10,g11,g12,gT,gS⟩
     ·exact .inl ⟨g1,by rw[hf];exact g2⟩
     ·refine .inr ⟨g1,by omega,g3,fun h=>hf.trans (g4 h),fun h=>by rw[hf];exact g5 h,y::new,v++TT ts j::v',by rw[g6];simp,by simp,by simp;omega,?_,?_,?_,?_,?_⟩
      ·intro z hz
       rcases pi.1 hz with rfl|hz
       ·exact h6
       ·exact g9 z hz
      ·rw[h7,zJ ts j hj,g10];simp
      ·intro t ht
       rcases pt.1 ht with ht|ht
       ·exact h9 t ht
       ·rcases pi.1 ht with rfl|ht
        ·show Kr (cA ts j);rw[hc];decide
        ·exact g11 t ht
      ·intro k st
       rw[Yf,g12,h10,h5,eX,kY];show kY v' (yU [45] _)=kY v' (yU (tA ts j) _);rw[hw]
      ·exact⟨hT.join gT (.inr hc),h5,.inr ⟨v,TT ts j,v',rfl,hPT,.inl ⟨hc,gS⟩⟩⟩
    ·simp only[e]
     rcases cS (len:=len) h3 (t:=[43]) (by decide) with ⟨hc2,hj,e2⟩|⟨hc2,e2⟩
     ·simp only[e2]
      have hw:=(cN (by decide) hc2).2;obtain⟨n1,n2⟩:=vt hst' (.inr rfl);have hf:FA ts len i fS 0=FA ts len (j+1) fS 0:=h4.trans (uX hj hc2 n1 (by decide) n2);have hI:=ih (j+1) false (ps++[y]) hj (by omega);generalize dE (pp ts len) n false (j+1,false) (ps++[y])=r at hI ⊢;rcases hI with ⟨g1,g2⟩|⟨g1,g2,g3,g4,g5,new,v',g6,g7,g8,g9,g10,g11,g12,gT,gS⟩
      ·exact .inl ⟨g1,by rw[hf];exact g2⟩
      ·refine .inr ⟨g1,by omega,g3,fun h=>hf.trans (g4 h),fun h=>by rw[hf];exact g5 h,y::new,v++TT ts j::v',by rw[g6];simp,by simp,by simp;omega,?_,?_,?_,?_,?_⟩
       ·intro z hz
        rcases pi.1 hz with rfl|hz
        ·exact h6
        ·exact g9 z hz
       ·rw[h7,zJ ts j hj,g10];simp
       ·intro t ht
        rcases pt.1 ht with ht|ht
        ·exact h9 t ht
        ·rcases pi.1 ht with rfl|ht
         ·show Kr (cA ts j);rw[hc2];decide
         ·exact g11 t ht
       ·intro k st
        rw[Yf,g12,h10,h5,eX,kY];show kY v' (De false (k+1) _)=kY v' (yU (tA ts j) _);rw[hw,De,tj (by omega)]
       ·exact⟨hT.join gT (.inl hc2),h5,.inr ⟨v,TT ts j,v',rfl,hPT,.inr ⟨hc2,gS⟩⟩⟩
     ·simp only[e2]
      refine .inr ⟨rfl,h2,h3,?_,?_,[y],v,rfl,by simp,by simp;omega,?_,h7,h9,?_,hT,h5,.inl ⟨rfl,hPT⟩⟩
      ·intro h
       have hj:=(cN (by decide) h).1;have hx:zO st xO 0=bK:=by rcases hst' with rfl|rfl <;> rfl
       exact h4.trans (uX hj h hx (by decide) rfl)
      ·intro h
       rw[h4];refine gP h3 (mT hsd.1 hsd.2.1 ?_) (.inr hsd.2.2);rcases zIU with rfl|⟨rfl,hs⟩
       ·rw[Km];simp[hc,hc2,h]
       ·rw[QA];simp[hc,hc2,h,hs]
      ·intro z hz;obtain rfl:=pu.1 hz;exact h6
      ·intro k st
       rw[Yf,Yf,h10,h5]
theorem zFM(i:Nat):(vA P (i,true)).2=(i,true):=by
 simp only[vA,Bo,Cn,zAP,List.isEmpty_nil]
theorem zGR(q:GS)(d:Int)(h:q.s.2=true):(xG P n q d).2.s=q.s:=by
 cases n with
 | zero=>rfl
 | succ n =>
   obtain⟨⟨i,f⟩,nd,te,de⟩:=q;obtain rfl:f=true:=h;rw[xG,Bo];simp only[Bo];show (vA P (i,true)).2=(i,true);rw[zFM]
theorem zDV(i:Nat):(vW P (i,true)).2.s=(i,true):=by
 unfold vW ZD aW mM;have h1:(xG P P.length ⟨(i,true),[],0,0⟩ 0).2.s=(i,true):=zGR P P.length ⟨(i,true),[],0,0⟩ 0 rfl;generalize xG P P.length ⟨(i,true),[],0,0⟩ 0=y at h1 ⊢;have h2:(mW P (fun q=>xG P P.length q 0) yE 2 P.length y.1 y.2).2.s=(i,true):=(mV _ _ _ _ _ _ _ (by rw[h1])).trans h1;generalize mW P (fun q=>xG P P.length q 0) yE 2 P.length y.1 y.2=z at h2 ⊢;exact(mV _ _ _ _ _ _ _ (by rw[h2])).trans h2
theorem jK{P:List PT}{t:Bs}(h:s=(i,true)):zU P t s=(i,true):=by subst h;rfl
theorem D7{P:List PT}(h:s=(i,true)):(zI P s).2=(i,true):=by subst h;rfl
theorem JS{P:List PT}(h:s=(i,true)):(tO P s).2=(i,true):=by subst h;exact zHT _ _ _ _ _
theorem nH{P:List PT}(h:s=(i,true)):(vW P s).2.s=(i,true):=by subst h;exact zDV _ _
theorem qX{len j:Nat}{v:Int}(h:s=(j,true))(hv:v=((yV (pp ts len) j).p:Int))(hi:FA ts len i jH 0=v):s.2=true/\FA ts len i jH 0=((yV (pp ts len) s.1).p:Int):=by
 subst h;exact⟨rfl,hi.trans hv⟩
def xK:Bs:=[110,117,109]
def xW:Bs:=[102,108,97,103]
def tW:Bs:=[111,118,101,114]
def Ka:Bs:=[101,110,100]
def QW:Bs:=[108,97,115,116]
def uj:Bs:=[102,114,111,109]
def sTo:Bs:=[116,111]
def ug:Bs:=[116,105,108,108]
def Bw:Bs:=[108,97,98,101,108]
def Bx:Bs:=[99,111,108,111,110]
def ui:Bs:=[104,101,97,100]
theorem Ce:jQ jH=[xK,xW,tW,zQ]:=by decide
structure Z2(x:zF)(u:zG)(w:Nat):Prop where
 whenAt:mR u 0=some w
 wlo:5<w
 whi:w+1<u.length
 conc:tA u 3=x.conc
 ne:x.conc≠[]
 parts:kH (u.take w)+1=x.sum.length
 big:mK [] (u.take w)=x.sum.any tC
 stars:∀k,k<w->cA u k=[42]->0<k/\cA u (k-1)=yA
 needs:cI ((u.take w).drop 5)=x.sum.flatMap rR
 needs2:qT xO (u.drop (w+1)) []=tD x.nd
 wt:aX (u.drop (w+1)) (x.tests,x.dep)
 good:∀n,u.length<n->qJ n (u.drop (w+1))=true
 sums:UI false x.sum ((u.take w).drop 5)
 gr:∃k y,Gr k (u.drop (w+1)) y x.nd x.root
structure LT(x:zF)(u:zG):Prop where
 two:2<=u.length
 toks:fM u
 name:tA u 1=x.name
 kind:(x.kind=1/\cA u 0=xK/\5<=u.length/\cA u 2=yA/\cA u 4=yA/\xF 0 (tA u 2)=x.low/\xF 0 (tA u 4)=x.high)\/(x.kind=2/\cA u 0=xW) \/
  (x.kind=4/\cA u 0=tW/\3<=u.length/\tA u 2=x.lower)\/(x.kind=3/\cA u 0=zQ/\∃w,Z2 x u w)
theorem fM.get(h:fM ts)(hi:i<ts.length):UH (TT ts i).2:=h.at' hi
def Z6(ts:zG)(len i:Nat)(r:zF × St):Prop :=
 (r.2.2=true/\FA ts len i jH 0=((yV (pp ts len) r.2.1).p:Int)) \/
 (r.2.2=false/\i<r.2.1/\r.2.1<=ts.length/\FA ts len i jH 0=FA ts len r.2.1 jH 0/\dG r.1 /\
  ∃u e,ts.drop i=u++e::ts.drop r.2.1/\zR e.2=qN/\(∀t∈u,zR t.2≠qN) /\
   LT r.1 u/\∀n,ts.length<n->Ui n u/\∀out,QN r.1 (out,false)=(out++lT n u++[59,10],false))
theorem Va(s:Bs)(out:Bs):eL (yU s (out,false))=(out++s++[59,10],false):=rfl
theorem iA{n:Nat}{x:zF}{u:zG}(hu:u≠[])(hr:zR (u.getD 0 (0,[])).2≠zQ)(hw:∀st,QN x st=eL (kY u st)) :
 Ui n u/\∀out,QN x (out,false)=(out++lT n u++[59,10],false):=by
 refine⟨⟨fw.2 hu,fun h=>absurd h hr⟩,fun out=>?_⟩;rw[hw,nW hu,Va,lT,tg hr]
theorem Zv{len:Nat}{st t:Bs}(h0:i<=ts.length)(h1:st≠uQ/\st≠qF/\st≠jH)(h2:jQ st=[t])(hc:cA ts i≠t):FA ts len i st 0=((yV (pp ts len) i).p:Int) :=
 gP h0 (mT h1.1 h1.2.1 (by rw[h2];simpa using hc)) (.inr h1.2.2)
theorem UY(a:Nat)(h:a<([]:List yX).length):0<=(Y7 [] a).num/\(Y7 [] a).num<=9999:=absurd h (by simp)
theorem qp{len:Nat}(zJ1:fM ts)(hi:i<ts.length)(hc:cA ts i=xK):Z6 ts len i (jN (pp ts len) (i+1,false)):=by
 have hf:FA ts len i jH 0=FA ts len (i+1) xK 0:=uX hi hc rfl (by decide) rfl;rcases fE (len:=len) (show i+1<=ts.length from hi) with ⟨c1,i1,e1⟩|⟨c1,e1⟩
 ·have f1:=hf.trans (uX i1 c1 (show zO xK yT 0=uj from rfl) (by decide) rfl)
  rcases wZ (len:=len) (show i+1+1<=ts.length from i1) with ⟨c2,i2,e2⟩|⟨c2,e2⟩
  ·have f2:=f1.trans (uX i2 c2 (show zO uj yA 0=sTo from rfl) (by decide) rfl)
   obtain⟨v1,v2⟩:=X2 (zJ1.at' i2) c2;rcases gD (len:=len) (t:=[46,46]) (show i+1+1+1<=ts.length from i2) (by decide) with ⟨c3,i3,e3⟩|⟨c3,e3⟩
   ·have f3:=f2.trans (uX i3 c3 (show zO sTo [46,46] 0=ug from rfl) (by decide) rfl)
    have w3:=(cN (by decide) c3).2;rcases wZ (len:=len) (show i+1+1+1+1<=ts.length from i3) with ⟨c4,i4,e4⟩|⟨c4,e4⟩
    ·have f4:=f3.trans (uX i4 c4 (show zO ug yA 0=Ka from rfl) (by decide) rfl)
     obtain⟨v3,v4⟩:=X2 (zJ1.at' i4) c4;rcases gD (len:=len) (t:=[59]) (show i+1+1+1+1+1<=ts.length from i4) (by decide) with ⟨c5,i5,e5⟩|⟨c5,e5⟩
     ·have f5:=f4.trans (uX i5 c5 (show zO Ka [59] 0=jH from rfl) (by decide) rfl)
      have w0:=(cN (by decide) hc).2;simp only[jN,e1,e2,e3,e4,e5]
      refine .inr ⟨rfl,(by show i<i+1+1+1+1+1+1;omega),i5,f5,⟨.inl rfl,v1.1,v1.2,v3.1,v3.2,fun a h=>UY a h,by simp,aL,fun h=>absurd (show (1:Int)=3 from h) (by decide)⟩,
       [TT ts i,TT ts (i+1),TT ts (i+1+1),TT ts (i+1+1+1),TT ts (i+1+1+1+1)],TT ts (i+1+1+1+1+1),?_,c5,?_,⟨by simp,?_,rfl,.inl ⟨rfl,hc,by simp,c2,c4,rfl,rfl⟩⟩,fun n _=>iA (by simp) ?_ ?_⟩
      ·rw[zJ ts i hi,zJ ts (i+1) i1,zJ ts (i+1+1) i2,zJ ts (i+1+1+1) i3,zJ ts (i+1+1+1+1) i4,zJ ts (i+1+1+1+1+1) i5];rfl
      ·intro t ht
       simp only[pi,ld,dn]at ht;rcases ht with rfl|rfl|rfl|rfl|rfl
       ·show cA ts i≠qN;rw[hc];decide
       ·show cA ts (i+1)≠qN;rw[c1];decide
       ·show cA ts (i+1+1)≠qN;rw[c2];decide
       ·show cA ts (i+1+1+1)≠qN;rw[c3];decide
       ·show cA ts (i+1+1+1+1)≠qN;rw[c4];decide
      ·intro t ht
       simp only[pi,ld,dn]at ht;rcases ht with rfl|rfl|rfl|rfl|rfl
       ·exact zJ1.get hi
       ·exact zJ1.get i1
       ·exact zJ1.get i2
       ·exact zJ1.get i3
       ·exact zJ1.get i4
      ·show cA ts i≠zQ;rw[hc];decide
      ·intro st
       show eL (eK (xF 0 (tA ts (i+1+1+1+1))) (yU [46,46] (eK (xF 0 (tA ts (i+1+1))) (yU (tA ts (i+1)) (yU xK st)))))=eL (yU (tA ts (i+1+1+1+1)) (yU (tA ts (i+1+1+1)) (yU (tA ts (i+1+1)) (yU (tA ts (i+1)) (yU (tA ts i) st)))));rw[eK,eK,v2,v4,w3,w0]
     ·exact .inl (qX (by simp only[jN,e1,e2,e3,e4,e5]) (Zv (by omega) (by decide) (show jQ Ka=[[59]] by decide) c5) f4)
    ·exact .inl (qX (by simp only[jN,e1,e2,e3,e4,rF]) (Zv (by omega) (by decide) (show jQ ug=[yA] by decide) c4) f3)
   ·exact .inl (qX (by simp only[jN,e1,e2,e3,X1,rF]) (Zv (by omega) (by decide) (show jQ sTo=[[46,46]] by decide) c3) f2)
  ·exact .inl (qX (by simp only[jN,e1,e2,X1,rF]) (Zv (by omega) (by decide) (show jQ uj=[yA] by decide) c2) f1)
 ·exact .inl (qX (by simp only[jN,e1,X1,rF]) (Zv (by omega) (by decide) (show jQ xK=[yT] by decide) c1) hf)
theorem GP{len:Nat}(zJ1:fM ts)(hi:i<ts.length)(hc:cA ts i=xW):Z6 ts len i (tM (pp ts len) (i+1,false)):=by
 have hf:FA ts len i jH 0=FA ts len (i+1) QW 0:=uX hi hc rfl (by decide) rfl;rcases fE (len:=len) (show i+1<=ts.length from hi) with ⟨c1,i1,e1⟩|⟨c1,e1⟩
 ·have f1:=hf.trans (uX i1 c1 (show zO QW yT 0=Ka from rfl) (by decide) rfl)
  rcases gD (len:=len) (t:=[59]) (show i+1+1<=ts.length from i1) (by decide) with ⟨c5,i5,e5⟩|⟨c5,e5⟩
  ·have f5:=f1.trans (uX i5 c5 (show zO Ka [59] 0=jH from rfl) (by decide) rfl)
   have w0:=(cN (by decide) hc).2;simp only[tM,e1,e5]
   refine .inr ⟨rfl,(by show i<i+1+1+1;omega),i5,f5,⟨.inr (.inl rfl),by simp,by simp,by simp,by simp,fun a h=>UY a h,by simp,aL,fun h=>absurd (show (2:Int)=3 from h) (by decide)⟩,
    [TT ts i,TT ts (i+1)],TT ts (i+1+1),?_,c5,?_,⟨by simp,?_,rfl,.inr (.inl ⟨rfl,hc⟩)⟩,fun n _=>iA (by simp) ?_ ?_⟩
   ·rw[zJ ts i hi,zJ ts (i+1) i1,zJ ts (i+1+1) i5];rfl
   ·intro t ht
    simp only[pi,ld,dn]at ht;rcases ht with rfl|rfl
    ·show cA ts i≠qN;rw[hc];decide
    ·show cA ts (i+1)≠qN;rw[c1];decide
   ·intro t ht
    simp only[pi,ld,dn]at ht;rcases ht with rfl|rfl
    ·exact zJ1.get hi
    ·exact zJ1.get i1
   ·show cA ts i≠zQ;rw[hc];decide
   ·intro st
    show eL (yU (tA ts (i+1)) (yU xW st))=eL (yU (tA ts (i+1)) (yU (tA ts i) st));rw[w0]
  ·exact .inl (qX (by simp only[tM,e1,e5]) (Zv (by omega) (by decide) (show jQ Ka=[[59]] by decide) c5) f1)
 ·exact .inl (qX (by simp only[tM,e1,rF]) (Zv (by omega) (by decide) (show jQ QW=[yT] by decide) c1) hf)
theorem Gb{len:Nat}(zJ1:fM ts)(hi:i<ts.length)(hc:cA ts i=tW):Z6 ts len i (kR (pp ts len) (i+1,false)):=by
 have hf:FA ts len i jH 0=FA ts len (i+1) tW 0:=uX hi hc rfl (by decide) rfl;rcases fE (len:=len) (show i+1<=ts.length from hi) with ⟨c1,i1,e1⟩|⟨c1,e1⟩
 ·have f1:=hf.trans (uX i1 c1 (show zO tW yT 0=QW from rfl) (by decide) rfl)
  rcases fE (len:=len) (show i+1+1<=ts.length from i1) with ⟨c2,i2,e2⟩|⟨c2,e2⟩
  ·have f2:=f1.trans (uX i2 c2 (show zO QW yT 0=Ka from rfl) (by decide) rfl)
   rcases gD (len:=len) (t:=[59]) (show i+1+1+1<=ts.length from i2) (by decide) with ⟨c5,i5,e5⟩|⟨c5,e5⟩
   ·have f5:=f2.trans (uX i5 c5 (show zO Ka [59] 0=jH from rfl) (by decide) rfl)
    have w0:=(cN (by decide) hc).2;simp only[kR,e1,e2,e5]
    refine .inr ⟨rfl,(by show i<i+1+1+1+1;omega),i5,f5,⟨.inr (.inr (.inr rfl)),by simp,by simp,by simp,by simp,fun a h=>UY a h,by simp,aL,fun h=>absurd (show (4:Int)=3 from h) (by decide)⟩,
     [TT ts i,TT ts (i+1),TT ts (i+1+1)],TT ts (i+1+1+1),?_,c5,?_,⟨by simp,?_,rfl,.inr (.inr (.inl ⟨rfl,hc,by simp,rfl⟩))⟩,fun n _=>iA (by simp) ?_ ?_⟩
    ·rw[zJ ts i hi,zJ ts (i+1) i1,zJ ts (i+1+1) i2,zJ ts (i+1+1+1) i5];rfl
    ·intro t ht
     simp only[pi,ld,dn]at ht;rcases ht with rfl|rfl|rfl
     ·show cA ts i≠qN;rw[hc];decide
     ·show cA ts (i+1)≠qN;rw[c1];decide
     ·show cA ts (i+1+1)≠qN;rw[c2];decide
    ·intro t ht
     simp only[pi,ld,dn]at ht;rcases ht with rfl|rfl|rfl
     ·exact zJ1.get hi
     ·exact zJ1.get i1
     ·exact zJ1.get i2
    ·show cA ts i≠zQ;rw[hc];decide
    ·intro st
     show eL (yU (tA ts (i+1+1)) (yU (tA ts (i+1)) (yU tW st)))=eL (yU (tA ts (i+1+1)) (yU (tA ts (i+1)) (yU (tA ts i) st)));rw[w0]
   ·exact .inl (qX (by simp only[kR,e1,e2,e5]) (Zv (by omega) (by decide) (show jQ Ka=[[59]] by decide) c5) f2)
  ·exact .inl (qX (by simp only[kR,e1,e2,rF]) (Zv (by omega) (by decide) (show jQ QW=[yT] by decide) c2) f1)
 ·exact .inl (qX (by simp only[kR,e1,Cn,rF]) (Zv (by omega) (by decide) (show jQ tW=[yT] by decide) c1) hf)
theorem Dd(u:zG)(t:Nat × Bs)(v:zG)(hu:∀x∈u,zR x.2≠xO)(ht:zR t.2=xO):∀i,mR (u++t::v) i=some (i+u.length):=by
 induction u with
 | nil=>intro i;rw[bf,mR,tj ht];rfl
 | cons x r ih =>
   intro i;rw[bw,mR,tg (hu x (mw ..)),ih (fun y hy=>hu y (cd _ hy)),p7];congr 1;omega
theorem FG{n:Nat}{x:zF}{h:zG}{w:Nat × Bs}{k:Nat}{y:Bs × Int}{N:List zX}{a:Int}(hr:zR ((h++w::v).getD 0 (0,[])).2=zQ)(hu:∀y∈h,zR y.2≠xO)(hw:zR w.2=xO)(ht:Gr k v y N a)(hn:v.length<n)
 (hx:∀st,QN x st=eL (yU y.1 (kY (h++[w]) st))) :
 Ui n (h++w::v)/\∀out,QN x (out,false)=(out++lT n (h++w::v)++[59,10],false):=by
 have e:mD (h++w::v)=(h.length:Int):=by unfold mD;rw[Dd h w v hu hw 0];simp
 have e1:(h++w::v).take (h.length+1)=h++[w]:=by
  rw[show h++w::v=(h++[w])++v by simp];exact List.take_left' (by simp)
 have e2:(h++w::v).drop (h.length+1)=v:=by
  rw[show h++w::v=(h++[w])++v by simp];exact List.drop_left' (by simp)
 obtain⟨t1,t2⟩:=vk ht n hn;have hp:=ht.pos;refine⟨⟨by simp only[tq,p7];omega,fun _=>⟨by omega,?_,?_⟩⟩,fun out=>?_⟩
 ·rw[e];simp only[tq,p7];omega
 ·rw[e,Int.toNat_natCast,e2];exact t2
 ·rw[hx,nW (by simp),<-lG,Va,lT,tj hr,e,Int.toNat_natCast,e1,e2,t1]
theorem zx{p a b c d e:Bs}{ta tb tc td te:Nat × Bs}(ha:zR ta.2=a)(hb:zR tb.2=b)(hc:zR tc.2=c)(hd:zR td.2=d)(he:zR te.2=e)(h:a≠[42]/\b≠[42]/\c≠[42]/\d≠[42]/\e≠[42]):mK p (ta::tb::tc::td::te::v)=mK te.2 v:=by
 subst ha hb hc hd he;simp only[mK];rw[th h.1,th h.2.1,th h.2.2.1,th h.2.2.2.1,th h.2.2.2.2];simp
theorem FF{b c d e w:Nat × Bs}{gv:zG}{S:List yX}{nd:List zX}{root te de:Int}{x:Bs × Int}{k:Nat}(ha:zR a.2=zQ)(hb:zR b.2=yT)(hc:zR c.2=[58])(hd:zR d.2=yT)(he:zR e.2=[61])(hw:zR w.2=xO)
 (hwn:∀t∈(a::b::c::d::e::v),zR t.2≠xO) (hv:0<v.length) (zIM:d.2≠[]) (hS:QL v S) (hSS:UI false S v) (hG:Gr k gv x nd root) (hW:Wt ⟨(i,false),[],0,0⟩ 0 ⟨(i,false),nd,te,de⟩ gv) :
 Z2 ⟨3,b.2,0,0,d.2,S,nd,root,te,de,[]⟩ ((a::b::c::d::e::v)++w::gv) (v.length+5):=by
 have hl:(a::b::c::d::e::v).length=v.length+5:=rfl;have e1:((a::b::c::d::e::v)++w::gv).take (v.length+5)=a::b::c::d::e::v:=List.take_left' hl
 have e2:((a::b::c::d::e::v)++w::gv).drop (v.length+5+1)=gv:=by
  rw[show (a::b::c::d::e::v)++w::gv=((a::b::c::d::e::v)++[w])++gv by simp];exact List.drop_left' (by simp)
 obtain⟨y,L,w1,w2,w3,w4,w5,w6⟩:=hW;simp only at w3 w4 w6
 have hy:y=(te,de):=by
  obtain⟨y1,y2⟩:=y;simp only at w2 w3 w4;have h1:y1=te:=by omega
  have h2:y2=de:=by omega
  rw[h1,h2]
 refine⟨?_,by omega,?_,rfl,zIM,?_,?_,?_,?_,?_,?_,?_,by rw[e1];exact hSS,k,x,by rw[e2];exact hG⟩
 ·rw[Dd _ w gv hwn hw 0,hl];simp
 ·have hp:=hG.pos;simp only[tq,p7];omega
 ·rw[e1]
  simp only[kH,ha,hb,hc,hd,he];rw[tg (by decide),tg (by decide),tg (by decide),tg (by decide)];have:=hS.count;omega
 ·rw[e1,zx ha hb hc hd he (by decide)];exact hS.big _
 ·intro k hk hcl
  have hk2:cA ((a::b::c::d::e::v)++w::gv) k=cA (a::b::c::d::e::v) k:=by
   unfold cA tA;rw[List.getD,List.getD,m6 (by rw[hl];exact hk)]
  rw[hk2]at hcl
  match k,hk,hcl with
  | 0,_,h=>exact absurd (ha.symm.trans h) (by decide)
  | 1,_,h=>exact absurd (hb.symm.trans h) (by decide)
  | 2,_,h=>exact absurd (hc.symm.trans h) (by decide)
  | 3,_,h=>exact absurd (hd.symm.trans h) (by decide)
  | 4,_,h=>exact absurd (he.symm.trans h) (by decide)
  | k+5,hk,h =>
    obtain⟨h1,h2⟩:=hS.star k (by omega) h;refine⟨by omega,?_⟩;obtain⟨m,rfl⟩:∃m,k=m+1:=⟨k-1,by omega⟩
    have hk3:cA ((a::b::c::d::e::v)++w::gv) (m+5)=cA (a::b::c::d::e::v) (m+5):=by
     unfold cA tA;rw[List.getD,List.getD,m6 (by rw[hl];omega)]
    show cA _ (m+5)=yA;rw[hk3];exact h2
 ·rw[e1];exact hS.needs
 ·rw[e2,w5 xO [] ⟨by decide,by decide⟩ (by decide),w6];rfl
 ·rw[e2,<-hy];exact w1
 ·intro n hn
  rw[e2];refine(vk hG n ?_).2;simp only[tq,p7]at hn;omega
theorem FH{len:Nat}(zJ1:fM ts)(zIH:ts.length<=4000)(hi:i<ts.length)(hc:cA ts i=zQ):Z6 ts len i (pI (pp ts len) (i+1,false)):=by
 have hf:FA ts len i jH 0=FA ts len (i+1) zQ 0:=uX hi hc rfl (by decide) rfl;have w0:=(cN (by decide) hc).2;rcases fE (len:=len) (show i+1<=ts.length from hi) with ⟨c1,i1,e1⟩|⟨c1,e1⟩
 rotate_left
 ·exact .inl (qX (jK (nH (jK (JS (jK (D7 (jK (by rw[e1])))))))) (Zv (by omega) (by decide) (show jQ zQ=[yT] by decide) c1) hf)
 have f1:=hf.trans (uX i1 c1 (show zO zQ yT 0=Bw from rfl) (by decide) rfl);rcases gD (len:=len) (t:=[58]) (show i+1+1<=ts.length from i1) (by decide) with ⟨c2,i2,e2⟩|⟨c2,e2⟩
 rotate_left
 ·exact .inl (qX (jK (nH (jK (JS (jK (D7 (by rw[e1,e2]))))))) (Zv (by omega) (by decide) (show jQ Bw=[[58]] by decide) c2) f1)
 have f2:=f1.trans (uX i2 c2 (show zO Bw [58] 0=Bx from rfl) (by decide) rfl);have w2:=(cN (by decide) c2).2;rcases fE (len:=len) (show i+1+1+1<=ts.length from i2) with ⟨c3,i3,e3⟩|⟨c3,e3⟩
 rotate_left
 ·exact .inl (qX (jK (nH (jK (JS (jK (by rw[e1,e2,e3])))))) (Zv (by omega) (by decide) (show jQ Bx=[yT] by decide) c3) f2)
 have f3:=f2.trans (uX i3 c3 (show zO Bx yT 0=ui from rfl) (by decide) rfl);rcases gD (len:=len) (t:=[61]) (show i+1+1+1+1<=ts.length from i3) (by decide) with ⟨c4,i4,e4⟩|⟨c4,e4⟩
 rotate_left
 ·exact .inl (qX (jK (nH (jK (JS (by rw[e1,e2,e3,e4]))))) (Zv (by omega) (by decide) (show jQ ui=[[61]] by decide) c4) f3)
 have f4:=f3.trans (uX i4 c4 (show zO ui [61] 0=fS from rfl) (by decide) rfl);have w4:=(cN (by decide) c4).2;have hS:=zC5 (len:=len) zJ1 (pp ts len).length (i+1+1+1+1+1) false [] i4 (by rw[eY];omega);simp only[pI,e1,e2,e3,e4];have eS:tO (pp ts len) (i+1+1+1+1+1,false)=dE (pp ts len) (pp ts len).length false (i+1+1+1+1+1,false) []:=rfl;rw[eS];generalize dE (pp ts len) (pp ts len).length false (i+1+1+1+1+1,false) []=r at hS ⊢;obtain⟨S,⟨j,f⟩⟩:=r;rcases hS with ⟨g1,g2⟩|⟨g1,g2,g3,g4,g5,new,v,g6,g7,g8,g9,g10,g11,g12,gT,gS⟩
 ·simp only at g1;subst g1
  exact .inl (qX (jK (nH (jK rfl))) g2 f4)
 simp only[bf]at g1 g2 g3 g4 g5 g6 g10;subst g1 g6;rcases gD (len:=len) (t:=xO) g3 (by decide) with ⟨c5,i5,e5⟩|⟨c5,e5⟩
 rotate_left
 ·exact .inl (qX (jK (nH e5)) (g5 c5) f4)
 have f5:=f4.trans (g4 c5);have w5:=(cN (by decide) c5).2;simp only[e5];have hG:=GJ (len:=len) zJ1 (show j+1<=ts.length from i5);generalize vW (pp ts len) (j+1,false)=y at hG ⊢;obtain⟨root,⟨⟨m,f⟩,nd,te,de⟩⟩:=y;rcases hG with ⟨k1,k2⟩|⟨k1,k2,k3,k4,k5,k6,k7,k8,gv,x,k9,k10,k11⟩
 ·simp only at k1;subst k1
  exact .inl (qX (jK rfl) k2 f5)
 simp only at k1 k2 k3 k4 k6 k7 k8 k9 k10;subst k1;have f6:=f5.trans k4;rcases gD (len:=len) (t:=[59]) k3 (by decide) with ⟨c7,i7,e7⟩|⟨c7,e7⟩
 rotate_left
 ·exact .inl (qX (by simp only[e7]) (gP k3 (ZQ (k8 (by decide)) (k7 (by decide)) (fun _=>rfl) (fun e=>absurd e c7)) (.inr (by decide))) f6)
 have f7:=f6.trans (uX i7 c7 (show zO qF [59] 0=jH from rfl) (by decide) rfl);simp only[e7];have hb:=k9.bound
 have hlv:v.length<=ts.length:=by
  have h1:=congrArg List.length g10;simp only[tq,ty]at h1;omega
 have hlx:gv.length<=ts.length:=by
  have h1:=congrArg List.length k10;simp only[tq,ty]at h1;omega
 refine .inr ⟨rfl,(by show i<m+1;omega),i7,f7,⟨.inr (.inr (.inl rfl)),by simp,by simp,by simp,by simp,?_,(by show S.length<=10000;omega),k6,fun _=>⟨g7,hb.1,hb.2⟩⟩,
  (TT ts i::TT ts (i+1)::TT ts (i+1+1)::TT ts (i+1+1+1)::TT ts (i+1+1+1+1)::v)++TT ts j::gv,TT ts m,?_,c7,?_,?_,fun n hn=>FG ?_ ?_ c5 k9 (by omega) ?_⟩
 ·intro a ha
  have ha':a<S.length:=ha;show 0<=(Y7 S a).num/\(Y7 S a).num<=9999;unfold Y7;rw[List.getD,pe ha'];exact g9 _ (List.getElem_mem ha')
 ·rw[zJ ts i hi,zJ ts (i+1) i1,zJ ts (i+1+1) i2,zJ ts (i+1+1+1) i3,zJ ts (i+1+1+1+1) i4,g10,zJ ts j i5,k10,zJ ts m i7]
  simp
 ·intro t ht
  rcases pt.1 ht with ht|ht
  ·simp only[pi]at ht
   rcases ht with rfl|rfl|rfl|rfl|rfl|ht
   ·show cA ts i≠qN;rw[hc];decide
   ·show cA ts (i+1)≠qN;rw[c1];decide
   ·show cA ts (i+1+1)≠qN;rw[c2];decide
   ·show cA ts (i+1+1+1)≠qN;rw[c3];decide
   ·show cA ts (i+1+1+1+1)≠qN;rw[c4];decide
   ·exact(g11 t ht).1
  ·rcases pi.1 ht with rfl|ht
   ·show cA ts j≠qN;rw[c5];decide
   ·exact k9.noEnd t ht
 ·have hg0:0<v.length:=by omega
  have hwn:∀t∈(TT ts i::TT ts (i+1)::TT ts (i+1+1)::TT ts (i+1+1+1)::TT ts (i+1+1+1+1)::v),zR t.2≠xO:=by
   intro t ht;simp only[pi]at ht;rcases ht with rfl|rfl|rfl|rfl|rfl|ht
   ·show cA ts i≠xO;rw[hc];decide
   ·show cA ts (i+1)≠xO;rw[c1];decide
   ·show cA ts (i+1+1)≠xO;rw[c2];decide
   ·show cA ts (i+1+1+1)≠xO;rw[c3];decide
   ·show cA ts (i+1+1+1+1)≠xO;rw[c4];decide
   ·exact(g11 t ht).2
  refine⟨by simp,?_,rfl,.inr (.inr (.inr ⟨rfl,hc,v.length+5,FF hc c1 c2 c3 c4 c5 hwn hg0 (zJ1.at' i3).1 gT gS k9 k11⟩))⟩
  have hall:(TT ts i::TT ts (i+1)::TT ts (i+1+1)::TT ts (i+1+1+1)::TT ts (i+1+1+1+1)::v)++TT ts j::gv++TT ts m::ts.drop (m+1)=ts.drop i:=by
   rw[zJ ts i hi,zJ ts (i+1) i1,zJ ts (i+1+1) i2,zJ ts (i+1+1+1) i3,zJ ts (i+1+1+1+1) i4,g10,zJ ts j i5,k10,zJ ts m i7];simp
  intro t ht;refine zJ1 t (List.mem_of_mem_drop (i:=i) ?_);rw[<-hall];exact List.mem_append_left _ ht
 ·show cA ts i=zQ;exact hc
 ·intro t ht
  simp only[pi]at ht;rcases ht with rfl|rfl|rfl|rfl|rfl|ht
  ·show cA ts i≠xO;rw[hc];decide
  ·show cA ts (i+1)≠xO;rw[c1];decide
  ·show cA ts (i+1+1)≠xO;rw[c2];decide
  ·show cA ts (i+1+1+1)≠xO;rw[c3];decide
  ·show cA ts (i+1+1+1+1)≠xO;rw[c4];decide
  ·exact(g11 t ht).2
 ·intro st
  show eL (gU nd nd.length root.toNat (yU xO (Yf S 0 (yU [61] (yU (tA ts (i+1+1+1)) (yU [58] (yU (tA ts (i+1)) (yU zQ st))))))))=_;rw[w_gr k9 nd.length _ (by omega),g12,eX];show _=eL (yU x.1 (yU (tA ts j) (kY v (yU (tA ts (i+1+1+1+1)) (yU (tA ts (i+1+1+1)) (yU (tA ts (i+1+1)) (yU (tA ts (i+1)) (yU (tA ts i) st))))))));rw[w0,w2,w4,w5];rfl
theorem VK{len:Nat}(zJ1:fM ts)(zIH:ts.length<=4000)(hi:i<ts.length):Z6 ts len i (uF (pp ts len) (i,false)):=by
 unfold uF;rcases cS (len:=len) (t:=[110,117,109]) (p8 hi) (by decide) with ⟨c1,_,e1⟩|⟨c1,e1⟩
 ·simp only[e1];exact qp zJ1 hi c1
 simp only[e1];rcases cS (len:=len) (t:=[102,108,97,103]) (p8 hi) (by decide) with ⟨c2,_,e2⟩|⟨c2,e2⟩
 ·simp only[e2];exact GP zJ1 hi c2
 simp only[e2];rcases cS (len:=len) (t:=[114,117,108,101]) (p8 hi) (by decide) with ⟨c3,_,e3⟩|⟨c3,e3⟩
 ·simp only[e3];exact FH zJ1 zIH hi c3
 simp only[e3];rcases gD (len:=len) (t:=[111,118,101,114]) (p8 hi) (by decide) with ⟨c4,_,e4⟩|⟨c4,e4⟩
 ·simp only[e4];exact Gb zJ1 hi c4
 simp only[e4];refine .inl (qX (j:=i) (by simp only[kR,Cn,rF]) ?_ rfl);exact gP (p8 hi) (mT (by decide) (by decide) (by rw[Ce];simp only[pi,ld,dn];rintro(h|h|h|h);exact c1 h;exact c2 h;exact c4 h;exact c3 h)) (.inl hi)
theorem VJ(u:zG)(e:Nat × Bs)(r:zG)(hu:∀t∈u,zR t.2≠qN)(he:zR e.2=qN):∀k a,uB (u++e::r) k a=(a,k+u.length-a)::uB r (k+u.length+1) (k+u.length+1):=by
 induction u with
 | nil=>intro k a;rw[bf,uB,tj he];rfl
 | cons t u ih =>
   intro k a;rw[bw,uB,tg (hu t (mw ..)),ih (fun x hx=>hu x (cd _ hx)),p7,show k+1+u.length=k+(u.length+1) by omega]
theorem DG(j:Nat)(acc:List zF):(pY P n (j,true) acc).2=(j,true):=by
 cases n <;> rfl
def yQ:List zF->List zG->Prop
 | [],[]=>True
 | x::xs,u::us=>LT x u/\yQ xs us
 | _,_=>False
theorem jv{len:Nat}(hi:i<=ts.length):(yV (pp ts len) i).k=0 ↔ i=ts.length:=by
 constructor
 ·intro h
  rcases po i ts.length with h1|h1
  ·rw[oJ h1]at h
   have h':vS (tA ts i)=0:=h;rcases aP (tA ts i) with ⟨h2,_⟩|⟨h2,_⟩|⟨h2,_⟩|⟨h2,_⟩ <;> omega
  ·omega
 ·rintro rfl;rw[aO]
def UN(ts:zG)(len i:Nat)(acc:List zF)(r:List zF × St):Prop :=
 (r.2.2=true/\FA ts len i jH 0=((yV (pp ts len) r.2.1).p:Int)) \/
 (r.2.2=false/\FA ts len i jH 0<0/\∃new,r.1=acc++new/\(∀x∈new,dG x)/\yQ new ((uB (ts.drop i) i i).map (nV ts)) /\
  ∀n,ts.length<n->(∀p∈uB (ts.drop i) i i,Ui n (nV ts p))/\∀out,JQ new (out,false)=(Xh n ts (uB (ts.drop i) i i) out,false))
theorem Gz{len:Nat}(zJ1:fM ts)(zIH:ts.length<=4000)(n:Nat):∀(i:Nat) (acc:List zF),i<=ts.length->wG (pp ts len) (i,false)<=n->UN ts len i acc (pY (pp ts len) n (i,false) acc):=by
 induction n with
 | zero=>intro i acc hi h;unfold wG at h;rw[eY]at h;simp only at h;omega
 | succ n ih =>
   intro i acc hi hn;rw[pY];simp only;by_cases hk:(yV (pp ts len) i).k=0
   ·rw[tj hk]
    obtain rfl:=(jv hi).1 hk;refine .inr ⟨rfl,?_,[],by simp,by simp,?_,fun n _=>⟨?_,?_⟩⟩
    ·unfold FA;rw[List.drop_length,jC,tj rfl];decide
    ·rw[List.drop_length,uB];trivial
    ·intro p hp;rw[List.drop_length,uB]at hp;simp at hp
    ·intro out;rw[List.drop_length,uB];rfl
   ·rw[tg hk]
    have hi':i<ts.length:=by
     rcases po i ts.length with h|h
     ·exact h
     ·exact absurd ((jv (len:=len) hi).2 (by omega)) hk
    have hg:=QQ (P:=pp ts len) (s:=(i,false)) rfl (by rw[eY];show i<ts.length+1;omega);have hL:=VK (len:=len) zJ1 zIH hi';generalize uF (pp ts len) (i,false)=r at hL hg ⊢;obtain⟨x,⟨j,f⟩⟩:=r;rcases hL with ⟨h1,h2⟩|⟨h1,h2,h3,h4,h5,u,e,h6,h7,h8,hLT,h9⟩
    ·simp only at h1;subst h1
     refine .inl ?_;rw[DG];exact⟨rfl,h2⟩
    ·simp only at h1 h2 h3 h4 h5 h6 h9;subst h1
     have hI:=ih j (acc++[x]) h3 (by simp only at hg;omega)
     have hj:i+u.length+1=j:=by
      have h:=congrArg List.length h6;simp only[tq,ty,p7]at h;omega
     have hl:uB (ts.drop i) i i=(i,u.length)::uB (ts.drop j) j j:=by
      rw[h6,VJ u e _ h8 h7,hj,show i+u.length-i=u.length by omega]
     have hs:nV ts (i,u.length)=u:=by
      unfold nV;rw[h6];exact List.take_left' rfl
     rcases hI with ⟨g1,g2⟩|⟨g1,g2,new,g3,g4,gL,g5⟩
     ·exact .inl ⟨g1,by rw[h4];exact g2⟩
     ·refine .inr ⟨g1,by rw[h4];exact g2,x::new,by rw[g3];simp,?_,?_,fun n hn=>?_⟩
      ·intro y hy
       rcases pi.1 hy with rfl|hy
       ·exact h5
       ·exact g4 y hy
      ·rw[hl,dm,hs];exact⟨hLT,gL⟩
      ·obtain⟨a1,a2⟩:=h9 n hn
       obtain⟨b1,b2⟩:=g5 n hn;rw[hl];refine⟨?_,fun out=>?_⟩
       ·intro p hp
        rcases pi.1 hp with rfl|hp
        ·rw[hs];exact a1
        ·exact b1 p hp
       ·rw[JQ,a2,b2,Xh,hs]
theorem Kj:∀s acc,(pY P n s acc).1.length<=acc.length+n:=by
 induction n with
 | zero=>intro s acc;exact t9 _
 | succ n ih =>
   intro s acc;rw[pY];split
   ·simp only;omega
   ·split
    ·simp only;omega
    ·have:=ih (uF P s).2 (acc++[(uF P s).1])
     simp only[tq,pd]at this;omega
theorem Fv(ts:zG)(ps:List (Nat × Nat)):∀s,(Xh n ts ps s).length<=s.length+Yy ts ps:=by
 induction ps with
 | nil=>intro s;simp[Xh,Yy]
 | cons p r ih =>
   intro s;rw[Xh,Yy];have h1:=ih (s++lT n (nV ts p)++[59,10]);have h2:=Kw n (nV ts p);simp only[tq,p7,List.length_nil]at h1;omega
structure JI(l:Bs):Prop where
 place:(yZ l).2.2=true->tQ l=((yV (wD l) (yZ l).2.1).p:Int)
 lines:(yZ l).2.2=false->yQ (yZ l).1 ((qR (yR l 0)).map (nV (yR l 0)))
theorem aA{n:Nat}{l:Bs}(hl:l.length<=4000)(hn:4000<n):JH n l/\JI l:=by
 have ht:(yR l 0).length<=4000:=tx (kW l 0) hl;have eP:wD l=pp (yR l 0) l.length:=rfl;have eF:FA (yR l 0) l.length 0 jH 0=tQ l:=rfl;have hR:=Gz (len:=l.length) (QP l) ht (2*(wD l).length+1) 0 [] (tr _) (by rw[eP];unfold wG;simp only;omega);rw[<-eP]at hR;have eR:pY (wD l) (2*(wD l).length+1) (0,false) []=yZ l:=rfl;rw[eR]at hR;unfold UN at hR;rw[eF,<-eP]at hR
 have hm:(yZ l).1.length<=10000:=by
  have:=Kj (wD l) (2*(wD l).length+1) (0,false) [];rw[eR,eP,eY]at this;simp only[List.length_nil]at this;omega
 have hs:(Di n l).length<=zGX:=by
  have h1:=Fv n (yR l 0) (qR (yR l 0)) [];have h2:=zf (yR l 0);have h3:=Fu l;unfold Di zGX;simp only[List.length_nil]at h1;omega
 rcases hR with ⟨h1,h2⟩|⟨h1,h2,new,h3,h4,hA,h5⟩
 ·refine⟨⟨fun _=>by rw[h2];exact Int.natCast_nonneg _,fun h=>?_,fun h=>?_,hm,fun h=>?_,hs,fun h=>?_⟩,fun _=>h2,fun h=>?_⟩
  ·rw[h1]at h;exact absurd h (by decide)
  ·rw[h1]at h;exact absurd h (by decide)
  ·rw[h1]at h;exact absurd h (by decide)
  ·rw[h2]at h;exact absurd h (by omega)
  ·rw[h1]at h;exact absurd h (by decide)
 ·obtain⟨a1,a2⟩:=h5 n (by omega)
  rw[bf]at h3;refine⟨⟨fun h=>?_,fun _=>h2,fun _=>?_,hm,fun _=>?_,hs,fun _=>a1⟩,fun h=>?_,fun _=>?_⟩
  ·rw[h1]at h;exact absurd h (by decide)
  ·rw[h3];exact h4
  ·rw[h3,a2];rfl
  ·rw[h1]at h;exact absurd h (by decide)
  ·rw[h3];exact hA
end Go.Proofs.YtnbpdffdnphbeaaGreatDoor
