import Derived.Test.YtnbpdffdnphbeaaGreatDoorPWeight
namespace Go.Proofs.YtnbpdffdnphbeaaGreatDoor
variable{i:Nat}{a:Nat × Bs}{s:St}{ts v:zG}(P:List PT)(n:Nat)(m:Bool)
def fW:Bs:=[112,97,114,116]
def aB:Bs:=[112,97,114,116,101,100]
def nA:Bs:=[99,111,117,110,116,101,100]
def uh:Bs:=[116,105,109,101,115]
theorem Cm:jR fW=[yU,yB]:=by decide
theorem Kp:jR aB=[[43],[45],xO]:=by decide
theorem QG:jR nA=[[42],[43],[45],xO]:=by decide
theorem VB:jR uh=[yU]:=by decide
abbrev Ku(c:Bs):Prop:=c≠qQ/\c≠xO
def JN(x:yZ)(v:zG):Prop :=
 (∃a b c,v=[a,b,c]/\zS a.2=yB/\zS b.2=[42]/\zS c.2=yU/\c.2≠[]/\x.starred=true/\x.num=xD 0 a.2/\x.name=c.2) \/
 (∃a,v=[a]/\zS a.2=yB/\x.starred=false/\x.num=xD 0 a.2/\x.name=[]) \/
 (∃a,v=[a]/\zS a.2=yU/\a.2≠[]/\x.starred=false/\x.num=0/\x.name=a.2)
def UM:Bool->List yZ->zG->Prop
 | _,[],_=>False
 | m,x::r,v=>x.minus=m/\((r=[]/\JN x v)\/∃v1 t v2,v=v1++t::v2/\JN x v1/\((zS t.2=[45]/\UM true r v2)\/(zS t.2=[43]/\UM false r v2)))
def zEG(ts:zG)(len i:Nat)(m:Bool)(r:yZ × St):Prop :=
 (r.2.2=true/\FA ts len i fW 0=((yW (pp ts len) r.2.1).p:Int)) \/
 (r.2.2=false/\i<r.2.1/\r.2.1<=ts.length/\(∃st,(st=aB\/st=nA/\cA ts r.2.1≠[42])/\FA ts len i fW 0=FA ts len r.2.1 st 0)/\r.1.minus=m/\(0<=r.1.num/\r.1.num<=9999) /\
  ∃v,ts.drop i=v++ts.drop r.2.1/\0<v.length/\(∀t∈v,Ku (zS t.2))/\(∀st,Dm r.1 st=jA v st)/\QT v [r.1]/\JN r.1 v)
theorem Br{b c:Nat × Bs}(ha:zS a.2=yB)(hb:zS b.2=[42])(hc:zS c.2=yU)(hn:c.2≠[])(m:Bool):QT [a,b,c] [⟨m,true,xD 0 a.2,c.2⟩]:=by
 refine⟨?_,?_,?_,?_⟩
 ·simp only[cK,ha,hb,hc]
  rw[tg (by decide),tg (by decide),tl trivial];simp[rS,hn]
 ·simp only[kK,ha,hb,hc]
  rw[tg (by decide),tg (by decide),tg (by decide)];rfl
 ·intro p
  simp only[mL,ha,hb,hc];rw[th (by decide:¬yB=[42]),th (by decide:¬yU=[42])];simp[tD]
 ·intro k hk h
  have:k=0\/k=1\/k=2:=by simp at hk;omega
  rcases this with rfl|rfl|rfl
  ·exact absurd (ha.symm.trans h) (by decide)
  ·exact⟨by decide,ha⟩
  ·exact absurd (hc.symm.trans h) (by decide)
theorem vx(ha:zS a.2=yB)(m:Bool):QT [a] [⟨m,false,xD 0 a.2,[]⟩]:=by
 refine⟨?_,?_,?_,?_⟩
 ·simp only[cK,ha];rw[tg (by decide)];simp[rS]
 ·simp only[kK,ha];rw[tg (by decide)];rfl
 ·intro p;simp only[mL,ha];rw[th (by decide:¬yB=[42])];simp[tD]
 ·intro k hk h
  obtain rfl:k=0:=by simp at hk;exact hk
  exact absurd (ha.symm.trans h) (by decide)
theorem F7(ha:zS a.2=yU)(hn:a.2≠[])(m:Bool):QT [a] [⟨m,false,0,a.2⟩]:=by
 refine⟨?_,?_,?_,?_⟩
 ·simp only[cK,ha];rw[tl trivial];simp[rS,hn]
 ·simp only[kK,ha];rw[tg (by decide)];rfl
 ·intro p;simp only[mL,ha];rw[th (by decide:¬yU=[42])];simp[tD]
 ·intro k hk h
  obtain rfl:k=0:=by simp at hk;exact hk
  exact absurd (ha.symm.trans h) (by decide)
theorem zCW(zIW:fQ ts)(hi:i<ts.length):(tA ts i).isEmpty=false:=by
 have:=(zIW.at' hi).1
 cases hx:tA ts i with
 | nil=>exact absurd hx this
 | cons a b=>rfl
theorem qa{len:Nat}(zIW:fQ ts)(h:i<=ts.length)(m:Bool):zEG ts len i m (qL (pp ts len) m (i,false)):=by
 rcases wY (len:=len) h with ⟨hc,hi,e⟩|⟨hc,e⟩
 ·have e0:=YZ (len:=len) h false
  rw[tm hc]at e0;obtain⟨v1,v2⟩:=X9 (zIW.at' hi) hc;have hf:FA ts len i fW 0=FA ts len (i+1) nA 0:=qE hi hc rfl (by decide) rfl;rcases cW (len:=len) (show i+1<=ts.length from hi) (t:=[42]) (by decide) with ⟨hc2,hi2,e2⟩|⟨hc2,e2⟩
  ·have hw:=(cQ (by decide) hc2).2
   have hf2:FA ts len i fW 0=FA ts len (i+1+1) uh 0:=hf.trans (qE hi2 hc2 rfl (by decide) rfl);rcases fJ (len:=len) (show i+1+1<=ts.length from hi2) with ⟨hc3,hi3,e3⟩|⟨hc3,e3⟩
   ·have e':qL (pp ts len) m (i,false)=(⟨m,true,xD 0 (tA ts i),tA ts (i+1+1)⟩,(i+1+1+1,false)):=by
     simp only[qL,e0,e,e2,e3]
    rw[e'];refine .inr ⟨rfl,(by show i<i+1+1+1;omega),hi3,⟨aB,.inl rfl,hf2.trans (qE hi3 hc3 rfl (by decide) rfl)⟩,rfl,v1,[TT ts i,TT ts (i+1),TT ts (i+1+1)],?_,by simp,?_,?_,Br hc hc2 hc3 (zIW.at' hi3).1 m,.inl ⟨_,_,_,rfl,hc,hc2,hc3,(zIW.at' hi3).1,rfl,rfl,rfl⟩⟩
    ·rw[zJ ts i hi,zJ ts (i+1) hi2,zJ ts (i+1+1) hi3];rfl
    ·intro t ht
     simp only[pi,l9,dn]at ht;rcases ht with rfl|rfl|rfl
     ·show Ku (cA ts i);rw[hc];decide
     ·show Ku (cA ts (i+1));rw[hc2];decide
     ·show Ku (cA ts (i+1+1));rw[hc3];decide
    ·intro st
     show yV (tA ts (i+1+1)) (yV [42] (eK (xD 0 (tA ts i)) st))=yV (tA ts (i+1+1)) (yV (tA ts (i+1)) (yV (tA ts i) st));rw[eK,v2,hw]
   ·have e':(qL (pp ts len) m (i,false)).2=(i+1+1,true):=by
     simp only[qL,e0,e,e2,e3]
    refine .inl ⟨by rw[e'],?_⟩;rw[e',hf2];exact gV hi2 (mV (by decide) (by decide) (by rw[VB];simpa using hc3)) (.inr (by decide))
  ·have e':qL (pp ts len) m (i,false)=(⟨m,false,xD 0 (tA ts i),[]⟩,(i+1,false)):=by
    simp only[qL,e0,e,e2]
   rw[e'];refine .inr ⟨rfl,(by show i<i+1;omega),hi,⟨nA,.inr ⟨rfl,hc2⟩,hf⟩,rfl,v1,[TT ts i],zJ ts i hi,by simp,?_,?_,vx hc m,.inr (.inl ⟨_,rfl,hc,rfl,rfl,rfl⟩)⟩
   ·intro t ht;obtain rfl:=pu.1 ht
    show Ku (cA ts i);rw[hc];decide
   ·intro st
    show eK (xD 0 (tA ts i)) st=yV (tA ts i) st;rw[eK,v2]
 ·have e0:=YZ (len:=len) h false
  rw[th hc]at e0;rcases fJ (len:=len) h with ⟨hc3,hi3,e3⟩|⟨hc3,e3⟩
  ·have e':qL (pp ts len) m (i,false)=(⟨m,false,0,tA ts i⟩,(i+1,false)):=by
    simp only[qL,e0,e3]
   rw[e'];refine .inr ⟨rfl,(by show i<i+1;omega),hi3,⟨aB,.inl rfl,qE hi3 hc3 rfl (by decide) rfl⟩,rfl,by simp,[TT ts i],zJ ts i hi3,by simp,?_,?_,F7 hc3 (zIW.at' hi3).1 m,.inr (.inr ⟨_,rfl,hc3,(zIW.at' hi3).1,rfl,rfl,rfl⟩)⟩
   ·intro t ht;obtain rfl:=pu.1 ht
    show Ku (cA ts i);rw[hc3];decide
   ·intro st
    show Dm ⟨m,false,0,tA ts i⟩ st=yV (tA ts i) st;simp only[Dm,zCW zIW hi3]
  ·have e':(qL (pp ts len) m (i,false)).2=(i,true):=by
    simp only[qL,e0,e3]
   refine .inl ⟨by rw[e'],?_⟩;rw[e'];exact gV h (mV (by decide) (by decide) (by rw[Cm];simp[hc,hc3])) (.inr (by decide))
theorem zFV(i:Nat):(qL P m (i,true)).2=(i,true):=by
 unfold qL;split <;> rfl
theorem zHM(i:Nat)(ps:List yZ):(dI P n m (i,true) ps).2=(i,true):=by
 cases n with
 | zero=>rfl
 | succ n =>
   rw[dI,zFV];rfl
def zGV(ts:zG)(len i:Nat)(m:Bool)(ps:List yZ)(r:List yZ × St):Prop :=
 (r.2.2=true/\FA ts len i fW 0=((yW (pp ts len) r.2.1).p:Int)) \/
 (r.2.2=false/\i<r.2.1/\r.2.1<=ts.length/\(cA ts r.2.1=xO->FA ts len i fW 0=FA ts len (r.2.1+1) bK 0)/\(cA ts r.2.1≠xO->FA ts len i fW 0=((yW (pp ts len) r.2.1).p:Int)) /\
  ∃new v,r.1=ps++new/\0<new.length/\new.length<=v.length/\(∀y∈new,0<=y.num/\y.num<=9999)/\ts.drop i=v++ts.drop r.2.1/\(∀t∈v,Ku (zS t.2)) /\
   (∀k st,Yk new k st=jA v (Dl m k st))/\QT v new/\UM m new v)
theorem vw{st:Bs}{c:Bs}(h:st=aB\/st=nA)(hc:c=[45]\/c=[43]):zO st c 0=fW/\opn c 0=0:=by
 rcases h with rfl|rfl <;> rcases hc with rfl|rfl <;> exact⟨rfl,rfl⟩
theorem zBY{len:Nat}(zIW:fQ ts)(n:Nat):∀(i:Nat) (m:Bool) (ps:List yZ),i<=ts.length->ts.length+1-i<=n->zGV ts len i m ps (dI (pp ts len) n m (i,false) ps):=by
 induction n with
 | zero=>intro i m ps h1 h2;omega
 | succ n ih =>
   intro i m ps hi hn;rw[dI];have hP:=qa (len:=len) zIW hi m;generalize qL (pp ts len) m (i,false)=r at hP ⊢;obtain⟨y,⟨j,f⟩⟩:=r;rcases hP with ⟨h1,h2⟩|⟨h1,h2,h3,⟨st,zIO,h4⟩,h5,h6,v,h7,h8,h9,h10,hT,hPT⟩
   ·simp only at h1;subst h1
    exact .inl ⟨rfl,h2⟩
   ·simp only at h1 h2 h3 zIO h4 h5 h6 h7 h10;subst h1
    have hst':st=aB\/st=nA:=by rcases zIO with h|h;exact .inl h;exact .inr h.1
    have hsd:st≠uV/\st≠qJ/\st≠jF:=by rcases hst' with rfl|rfl <;> decide
    rcases cW (len:=len) h3 (t:=[45]) (by decide) with ⟨hc,hj,e⟩|⟨hc,e⟩
    ·simp only[e]
     have hw:=(cQ (by decide) hc).2;obtain⟨n1,n2⟩:=vw hst' (.inl rfl);have hf:FA ts len i fW 0=FA ts len (j+1) fW 0:=h4.trans (qE hj hc n1 (by decide) n2);have hI:=ih (j+1) true (ps++[y]) hj (by omega);generalize dI (pp ts len) n true (j+1,false) (ps++[y])=r at hI ⊢;rcases hI with ⟨g1,g2⟩|⟨g1,g2,g3,g4,g5,new,v',g6,g7,g8,g9,g10,g11,g12,gT,gS⟩
     ·exact .inl ⟨g1,by rw[hf];exact g2⟩
     ·refine .inr ⟨g1,by omega,g3,fun h=>hf.trans (g4 h),fun h=>by rw[hf];exact g5 h,y::new,v++TT ts j::v',by rw[g6];simp,by simp,by simp;omega,?_,?_,?_,?_,?_⟩
      ·intro z hz
       rcases pi.1 hz with rfl|hz
       ·exact h6
       ·exact g9 z hz
      ·rw[h7,zJ ts j hj,g10];simp
      ·intro t ht
       rcases pt.1 ht with ht|ht
       ·exact h9 t ht
       ·rcases pi.1 ht with rfl|ht
        ·show Ku (cA ts j);rw[hc];decide
        ·exact g11 t ht
      ·intro k st
       rw[Yk,g12,h10,h5,eX,jA];show jA v' (yV [45] _)=jA v' (yV (tA ts j) _);rw[hw]
      ·exact⟨hT.join gT (.inr hc),h5,.inr ⟨v,TT ts j,v',rfl,hPT,.inl ⟨hc,gS⟩⟩⟩
    ·simp only[e]
     rcases cW (len:=len) h3 (t:=[43]) (by decide) with ⟨hc2,hj,e2⟩|⟨hc2,e2⟩
     ·simp only[e2]
      have hw:=(cQ (by decide) hc2).2;obtain⟨n1,n2⟩:=vw hst' (.inr rfl);have hf:FA ts len i fW 0=FA ts len (j+1) fW 0:=h4.trans (qE hj hc2 n1 (by decide) n2);have hI:=ih (j+1) false (ps++[y]) hj (by omega);generalize dI (pp ts len) n false (j+1,false) (ps++[y])=r at hI ⊢;rcases hI with ⟨g1,g2⟩|⟨g1,g2,g3,g4,g5,new,v',g6,g7,g8,g9,g10,g11,g12,gT,gS⟩
      ·exact .inl ⟨g1,by rw[hf];exact g2⟩
      ·refine .inr ⟨g1,by omega,g3,fun h=>hf.trans (g4 h),fun h=>by rw[hf];exact g5 h,y::new,v++TT ts j::v',by rw[g6];simp,by simp,by simp;omega,?_,?_,?_,?_,?_⟩
       ·intro z hz
        rcases pi.1 hz with rfl|hz
        ·exact h6
        ·exact g9 z hz
       ·rw[h7,zJ ts j hj,g10];simp
       ·intro t ht
        rcases pt.1 ht with ht|ht
        ·exact h9 t ht
        ·rcases pi.1 ht with rfl|ht
         ·show Ku (cA ts j);rw[hc2];decide
         ·exact g11 t ht
       ·intro k st
        rw[Yk,g12,h10,h5,eX,jA];show jA v' (Dl false (k+1) _)=jA v' (yV (tA ts j) _);rw[hw,Dl,tl (by omega)]
       ·exact⟨hT.join gT (.inl hc2),h5,.inr ⟨v,TT ts j,v',rfl,hPT,.inr ⟨hc2,gS⟩⟩⟩
     ·simp only[e2]
      refine .inr ⟨rfl,h2,h3,?_,?_,[y],v,rfl,by simp,by simp;omega,?_,h7,h9,?_,hT,h5,.inl ⟨rfl,hPT⟩⟩
      ·intro h
       have hj:=(cQ (by decide) h).1;have hx:zO st xO 0=bK:=by rcases hst' with rfl|rfl <;> rfl
       exact h4.trans (qE hj h hx (by decide) rfl)
      ·intro h
       rw[h4];refine gV h3 (mV hsd.1 hsd.2.1 ?_) (.inr hsd.2.2);rcases zIO with rfl|⟨rfl,hs⟩
       ·rw[Kp];simp[hc,hc2,h]
       ·rw[QG];simp[hc,hc2,h,hs]
      ·intro z hz;obtain rfl:=pu.1 hz;exact h6
      ·intro k st
       rw[Yk,Yk,h10,h5]
theorem zFG(i:Nat):(vA P (i,true)).2=(i,true):=by
 simp only[vA,Bx,Cv,zAJ,List.isEmpty_nil]
theorem zGM(q:GS)(d:Int)(h:q.s.2=true):(xF P n q d).2.s=q.s:=by
 cases n with
 | zero=>rfl
 | succ n =>
   obtain⟨⟨i,f⟩,nd,te,de⟩:=q;obtain rfl:f=true:=h;rw[xF,Bx];simp only[Bx];show (vA P (i,true)).2=(i,true);rw[zFG]
theorem zDP(i:Nat):(vY P (i,true)).2.s=(i,true):=by
 unfold vY ZG aY mO;have h1:(xF P P.length ⟨(i,true),[],0,0⟩ 0).2.s=(i,true):=zGM P P.length ⟨(i,true),[],0,0⟩ 0 rfl;generalize xF P P.length ⟨(i,true),[],0,0⟩ 0=y at h1 ⊢;have h2:(mY P (fun q=>xF P P.length q 0) yE 2 P.length y.1 y.2).2.s=(i,true):=(mX _ _ _ _ _ _ _ (by rw[h1])).trans h1;generalize mY P (fun q=>xF P P.length q 0) yE 2 P.length y.1 y.2=z at h2 ⊢;exact(mX _ _ _ _ _ _ _ (by rw[h2])).trans h2
theorem jK{P:List PT}{t:Bs}(h:s=(i,true)):zU P t s=(i,true):=by subst h;rfl
theorem DB{P:List PT}(h:s=(i,true)):(zI P s).2=(i,true):=by subst h;rfl
theorem JV{P:List PT}(h:s=(i,true)):(tQ P s).2=(i,true):=by subst h;exact zHM _ _ _ _ _
theorem nK{P:List PT}(h:s=(i,true)):(vY P s).2.s=(i,true):=by subst h;exact zDP _ _
theorem kB{len j:Nat}{v:Int}(h:s=(j,true))(hv:v=((yW (pp ts len) j).p:Int))(hi:FA ts len i jF 0=v):s.2=true/\FA ts len i jF 0=((yW (pp ts len) s.1).p:Int):=by
 subst h;exact⟨rfl,hi.trans hv⟩
def xK:Bs:=[110,117,109]
def xV:Bs:=[102,108,97,103]
def tZ:Bs:=[111,118,101,114]
def Kc:Bs:=[101,110,100]
def Je:Bs:=[108,97,115,116]
def ul:Bs:=[102,114,111,109]
def sTo:Bs:=[116,111]
def ui:Bs:=[116,105,108,108]
def B6:Bs:=[108,97,98,101,108]
def B7:Bs:=[99,111,108,111,110]
def uk:Bs:=[104,101,97,100]
theorem Cn:jR jF=[xK,xV,tZ,zR]:=by decide
structure Z2(x:zF)(u:zG)(w:Nat):Prop where
 whenAt:mS u 0=some w
 wlo:5<w
 whi:w+1<u.length
 conc:tA u 3=x.conc
 ne:x.conc≠[]
 parts:kK (u.take w)+1=x.sum.length
 big:mL [] (u.take w)=x.sum.any tD
 stars:∀k,k<w->cA u k=[42]->0<k/\cA u (k-1)=yB
 needs:cK ((u.take w).drop 5)=x.sum.flatMap rS
 needs2:qX xO (u.drop (w+1)) []=tE x.nd
 wt:aZ (u.drop (w+1)) (x.tests,x.dep)
 good:∀n,u.length<n->qN n (u.drop (w+1))=true
 sums:UM false x.sum ((u.take w).drop 5)
 gr:∃k y,Gr k (u.drop (w+1)) y x.nd x.root
structure LT(x:zF)(u:zG):Prop where
 two:2<=u.length
 toks:fQ u
 name:tA u 1=x.name
 kind:(x.kind=1/\cA u 0=xK/\5<=u.length/\cA u 2=yB/\cA u 4=yB/\xD 0 (tA u 2)=x.low/\xD 0 (tA u 4)=x.high)\/(x.kind=2/\cA u 0=xV) \/
  (x.kind=4/\cA u 0=tZ/\3<=u.length/\tA u 2=x.lower)\/(x.kind=3/\cA u 0=zR/\∃w,Z2 x u w)
theorem fQ.get(h:fQ ts)(hi:i<ts.length):UL (TT ts i).2:=h.at' hi
def Z6(ts:zG)(len i:Nat)(r:zF × St):Prop :=
 (r.2.2=true/\FA ts len i jF 0=((yW (pp ts len) r.2.1).p:Int)) \/
 (r.2.2=false/\i<r.2.1/\r.2.1<=ts.length/\FA ts len i jF 0=FA ts len r.2.1 jF 0/\gE r.1 /\
  ∃u e,ts.drop i=u++e::ts.drop r.2.1/\zS e.2=qQ/\(∀t∈u,zS t.2≠qQ) /\
   LT r.1 u/\∀n,ts.length<n->Un n u/\∀out,QV r.1 (out,false)=(out++lU n u++[59,10],false))
theorem Vg(s:Bs)(out:Bs):eL (yV s (out,false))=(out++s++[59,10],false):=rfl
theorem iA{n:Nat}{x:zF}{u:zG}(hu:u≠[])(hr:zS (u.getD 0 (0,[])).2≠zR)(hw:∀st,QV x st=eL (jA u st)) :
 Un n u/\∀out,QV x (out,false)=(out++lU n u++[59,10],false):=by
 refine⟨⟨ft.2 hu,fun h=>absurd h hr⟩,fun out=>?_⟩;rw[hw,oA hu,Vg,lU,tg hr]
theorem Zv{len:Nat}{st t:Bs}(h0:i<=ts.length)(h1:st≠uV/\st≠qJ/\st≠jF)(h2:jR st=[t])(hc:cA ts i≠t):FA ts len i st 0=((yW (pp ts len) i).p:Int) :=
 gV h0 (mV h1.1 h1.2.1 (by rw[h2];simpa using hc)) (.inr h1.2.2)
theorem Bg(a:Nat)(h:a<([]:List yZ).length):0<=(YB [] a).num/\(YB [] a).num<=9999:=absurd h (by simp)
theorem qp{len:Nat}(zIW:fQ ts)(hi:i<ts.length)(hc:cA ts i=xK):Z6 ts len i (jO (pp ts len) (i+1,false)):=by
 have hf:FA ts len i jF 0=FA ts len (i+1) xK 0:=qE hi hc rfl (by decide) rfl;rcases fJ (len:=len) (show i+1<=ts.length from hi) with ⟨c1,i1,e1⟩|⟨c1,e1⟩
 ·have f1:=hf.trans (qE i1 c1 (show zO xK yU 0=ul from rfl) (by decide) rfl)
  rcases wY (len:=len) (show i+1+1<=ts.length from i1) with ⟨c2,i2,e2⟩|⟨c2,e2⟩
  ·have f2:=f1.trans (qE i2 c2 (show zO ul yB 0=sTo from rfl) (by decide) rfl)
   obtain⟨v1,v2⟩:=X9 (zIW.at' i2) c2;rcases gI (len:=len) (t:=[46,46]) (show i+1+1+1<=ts.length from i2) (by decide) with ⟨c3,i3,e3⟩|⟨c3,e3⟩
   ·have f3:=f2.trans (qE i3 c3 (show zO sTo [46,46] 0=ui from rfl) (by decide) rfl)
    have w3:=(cQ (by decide) c3).2;rcases wY (len:=len) (show i+1+1+1+1<=ts.length from i3) with ⟨c4,i4,e4⟩|⟨c4,e4⟩
    ·have f4:=f3.trans (qE i4 c4 (show zO ui yB 0=Kc from rfl) (by decide) rfl)
     obtain⟨v3,v4⟩:=X9 (zIW.at' i4) c4;rcases gI (len:=len) (t:=[59]) (show i+1+1+1+1+1<=ts.length from i4) (by decide) with ⟨c5,i5,e5⟩|⟨c5,e5⟩
     ·have f5:=f4.trans (qE i5 c5 (show zO Kc [59] 0=jF from rfl) (by decide) rfl)
      have w0:=(cQ (by decide) hc).2;simp only[jO,e1,e2,e3,e4,e5]
      refine .inr ⟨rfl,(by show i<i+1+1+1+1+1+1;omega),i5,f5,⟨.inl rfl,v1.1,v1.2,v3.1,v3.2,fun a h=>Bg a h,by simp,aL,fun h=>absurd (show (1:Int)=3 from h) (by decide)⟩,
       [TT ts i,TT ts (i+1),TT ts (i+1+1),TT ts (i+1+1+1),TT ts (i+1+1+1+1)],TT ts (i+1+1+1+1+1),?_,c5,?_,⟨by simp,?_,rfl,.inl ⟨rfl,hc,by simp,c2,c4,rfl,rfl⟩⟩,fun n _=>iA (by simp) ?_ ?_⟩
      ·rw[zJ ts i hi,zJ ts (i+1) i1,zJ ts (i+1+1) i2,zJ ts (i+1+1+1) i3,zJ ts (i+1+1+1+1) i4,zJ ts (i+1+1+1+1+1) i5];rfl
      ·intro t ht
       simp only[pi,l9,dn]at ht;rcases ht with rfl|rfl|rfl|rfl|rfl
       ·show cA ts i≠qQ;rw[hc];decide
       ·show cA ts (i+1)≠qQ;rw[c1];decide
       ·show cA ts (i+1+1)≠qQ;rw[c2];decide
       ·show cA ts (i+1+1+1)≠qQ;rw[c3];decide
       ·show cA ts (i+1+1+1+1)≠qQ;rw[c4];decide
      ·intro t ht
       simp only[pi,l9,dn]at ht;rcases ht with rfl|rfl|rfl|rfl|rfl
       ·exact zIW.get hi
       ·exact zIW.get i1
       ·exact zIW.get i2
       ·exact zIW.get i3
       ·exact zIW.get i4
      ·show cA ts i≠zR;rw[hc];decide
      ·intro st
       show eL (eK (xD 0 (tA ts (i+1+1+1+1))) (yV [46,46] (eK (xD 0 (tA ts (i+1+1))) (yV (tA ts (i+1)) (yV xK st)))))=eL (yV (tA ts (i+1+1+1+1)) (yV (tA ts (i+1+1+1)) (yV (tA ts (i+1+1)) (yV (tA ts (i+1)) (yV (tA ts i) st)))));rw[eK,eK,v2,v4,w3,w0]
     ·exact .inl (kB (by simp only[jO,e1,e2,e3,e4,e5]) (Zv (by omega) (by decide) (show jR Kc=[[59]] by decide) c5) f4)
    ·exact .inl (kB (by simp only[jO,e1,e2,e3,e4,rJ]) (Zv (by omega) (by decide) (show jR ui=[yB] by decide) c4) f3)
   ·exact .inl (kB (by simp only[jO,e1,e2,e3,X8,rJ]) (Zv (by omega) (by decide) (show jR sTo=[[46,46]] by decide) c3) f2)
  ·exact .inl (kB (by simp only[jO,e1,e2,X8,rJ]) (Zv (by omega) (by decide) (show jR ul=[yB] by decide) c2) f1)
 ·exact .inl (kB (by simp only[jO,e1,X8,rJ]) (Zv (by omega) (by decide) (show jR xK=[yU] by decide) c1) hf)
theorem GU{len:Nat}(zIW:fQ ts)(hi:i<ts.length)(hc:cA ts i=xV):Z6 ts len i (tN (pp ts len) (i+1,false)):=by
 have hf:FA ts len i jF 0=FA ts len (i+1) Je 0:=qE hi hc rfl (by decide) rfl;rcases fJ (len:=len) (show i+1<=ts.length from hi) with ⟨c1,i1,e1⟩|⟨c1,e1⟩
 ·have f1:=hf.trans (qE i1 c1 (show zO Je yU 0=Kc from rfl) (by decide) rfl)
  rcases gI (len:=len) (t:=[59]) (show i+1+1<=ts.length from i1) (by decide) with ⟨c5,i5,e5⟩|⟨c5,e5⟩
  ·have f5:=f1.trans (qE i5 c5 (show zO Kc [59] 0=jF from rfl) (by decide) rfl)
   have w0:=(cQ (by decide) hc).2;simp only[tN,e1,e5]
   refine .inr ⟨rfl,(by show i<i+1+1+1;omega),i5,f5,⟨.inr (.inl rfl),by simp,by simp,by simp,by simp,fun a h=>Bg a h,by simp,aL,fun h=>absurd (show (2:Int)=3 from h) (by decide)⟩,
    [TT ts i,TT ts (i+1)],TT ts (i+1+1),?_,c5,?_,⟨by simp,?_,rfl,.inr (.inl ⟨rfl,hc⟩)⟩,fun n _=>iA (by simp) ?_ ?_⟩
   ·rw[zJ ts i hi,zJ ts (i+1) i1,zJ ts (i+1+1) i5];rfl
   ·intro t ht
    simp only[pi,l9,dn]at ht;rcases ht with rfl|rfl
    ·show cA ts i≠qQ;rw[hc];decide
    ·show cA ts (i+1)≠qQ;rw[c1];decide
   ·intro t ht
    simp only[pi,l9,dn]at ht;rcases ht with rfl|rfl
    ·exact zIW.get hi
    ·exact zIW.get i1
   ·show cA ts i≠zR;rw[hc];decide
   ·intro st
    show eL (yV (tA ts (i+1)) (yV xV st))=eL (yV (tA ts (i+1)) (yV (tA ts i) st));rw[w0]
  ·exact .inl (kB (by simp only[tN,e1,e5]) (Zv (by omega) (by decide) (show jR Kc=[[59]] by decide) c5) f1)
 ·exact .inl (kB (by simp only[tN,e1,rJ]) (Zv (by omega) (by decide) (show jR Je=[yU] by decide) c1) hf)
theorem Gi{len:Nat}(zIW:fQ ts)(hi:i<ts.length)(hc:cA ts i=tZ):Z6 ts len i (kT (pp ts len) (i+1,false)):=by
 have hf:FA ts len i jF 0=FA ts len (i+1) tZ 0:=qE hi hc rfl (by decide) rfl;rcases fJ (len:=len) (show i+1<=ts.length from hi) with ⟨c1,i1,e1⟩|⟨c1,e1⟩
 ·have f1:=hf.trans (qE i1 c1 (show zO tZ yU 0=Je from rfl) (by decide) rfl)
  rcases fJ (len:=len) (show i+1+1<=ts.length from i1) with ⟨c2,i2,e2⟩|⟨c2,e2⟩
  ·have f2:=f1.trans (qE i2 c2 (show zO Je yU 0=Kc from rfl) (by decide) rfl)
   rcases gI (len:=len) (t:=[59]) (show i+1+1+1<=ts.length from i2) (by decide) with ⟨c5,i5,e5⟩|⟨c5,e5⟩
   ·have f5:=f2.trans (qE i5 c5 (show zO Kc [59] 0=jF from rfl) (by decide) rfl)
    have w0:=(cQ (by decide) hc).2;simp only[kT,e1,e2,e5]
    refine .inr ⟨rfl,(by show i<i+1+1+1+1;omega),i5,f5,⟨.inr (.inr (.inr rfl)),by simp,by simp,by simp,by simp,fun a h=>Bg a h,by simp,aL,fun h=>absurd (show (4:Int)=3 from h) (by decide)⟩,
     [TT ts i,TT ts (i+1),TT ts (i+1+1)],TT ts (i+1+1+1),?_,c5,?_,⟨by simp,?_,rfl,.inr (.inr (.inl ⟨rfl,hc,by simp,rfl⟩))⟩,fun n _=>iA (by simp) ?_ ?_⟩
    ·rw[zJ ts i hi,zJ ts (i+1) i1,zJ ts (i+1+1) i2,zJ ts (i+1+1+1) i5];rfl
    ·intro t ht
     simp only[pi,l9,dn]at ht;rcases ht with rfl|rfl|rfl
     ·show cA ts i≠qQ;rw[hc];decide
     ·show cA ts (i+1)≠qQ;rw[c1];decide
     ·show cA ts (i+1+1)≠qQ;rw[c2];decide
    ·intro t ht
     simp only[pi,l9,dn]at ht;rcases ht with rfl|rfl|rfl
     ·exact zIW.get hi
     ·exact zIW.get i1
     ·exact zIW.get i2
    ·show cA ts i≠zR;rw[hc];decide
    ·intro st
     show eL (yV (tA ts (i+1+1)) (yV (tA ts (i+1)) (yV tZ st)))=eL (yV (tA ts (i+1+1)) (yV (tA ts (i+1)) (yV (tA ts i) st)));rw[w0]
   ·exact .inl (kB (by simp only[kT,e1,e2,e5]) (Zv (by omega) (by decide) (show jR Kc=[[59]] by decide) c5) f2)
  ·exact .inl (kB (by simp only[kT,e1,e2,rJ]) (Zv (by omega) (by decide) (show jR Je=[yU] by decide) c2) f1)
 ·exact .inl (kB (by simp only[kT,e1,Cv,rJ]) (Zv (by omega) (by decide) (show jR tZ=[yU] by decide) c1) hf)
theorem Dk(u:zG)(t:Nat × Bs)(v:zG)(hu:∀x∈u,zS x.2≠xO)(ht:zS t.2=xO):∀i,mS (u++t::v) i=some (i+u.length):=by
 induction u with
 | nil=>intro i;rw[bf,mS,tl ht];rfl
 | cons x r ih =>
   intro i;rw[bw,mS,tg (hu x (mw ..)),ih (fun y hy=>hu y (cd _ hy)),p7];congr 1;omega
theorem FL{n:Nat}{x:zF}{h:zG}{w:Nat × Bs}{k:Nat}{y:Bs × Int}{N:List zX}{a:Int}(hr:zS ((h++w::v).getD 0 (0,[])).2=zR)(hu:∀y∈h,zS y.2≠xO)(hw:zS w.2=xO)(ht:Gr k v y N a)(hn:v.length<n)
 (hx:∀st,QV x st=eL (yV y.1 (jA (h++[w]) st))) :
 Un n (h++w::v)/\∀out,QV x (out,false)=(out++lU n (h++w::v)++[59,10],false):=by
 have e:mE (h++w::v)=(h.length:Int):=by unfold mE;rw[Dk h w v hu hw 0];simp
 have e1:(h++w::v).take (h.length+1)=h++[w]:=by
  rw[show h++w::v=(h++[w])++v by simp];exact List.take_left' (by simp)
 have e2:(h++w::v).drop (h.length+1)=v:=by
  rw[show h++w::v=(h++[w])++v by simp];exact List.drop_left' (by simp)
 obtain⟨t1,t2⟩:=vm ht n hn;have hp:=ht.pos;refine⟨⟨by simp only[tq,p7];omega,fun _=>⟨by omega,?_,?_⟩⟩,fun out=>?_⟩
 ·rw[e];simp only[tq,p7];omega
 ·rw[e,Int.toNat_natCast,e2];exact t2
 ·rw[hx,oA (by simp),<-lI,Vg,lU,tl hr,e,Int.toNat_natCast,e1,e2,t1]
theorem yf{p a b c d e:Bs}{ta tb tc td te:Nat × Bs}(ha:zS ta.2=a)(hb:zS tb.2=b)(hc:zS tc.2=c)(hd:zS td.2=d)(he:zS te.2=e)(h:a≠[42]/\b≠[42]/\c≠[42]/\d≠[42]/\e≠[42]):mL p (ta::tb::tc::td::te::v)=mL te.2 v:=by
 subst ha hb hc hd he;simp only[mL];rw[th h.1,th h.2.1,th h.2.2.1,th h.2.2.2.1,th h.2.2.2.2];simp
theorem FK{b c d e w:Nat × Bs}{gv:zG}{S:List yZ}{nd:List zX}{root te de:Int}{x:Bs × Int}{k:Nat}(ha:zS a.2=zR)(hb:zS b.2=yU)(hc:zS c.2=[58])(hd:zS d.2=yU)(he:zS e.2=[61])(hw:zS w.2=xO)
 (hwn:∀t∈(a::b::c::d::e::v),zS t.2≠xO) (hv:0<v.length) (zIH:d.2≠[]) (hS:QT v S) (hSS:UM false S v) (hG:Gr k gv x nd root) (hW:Wt ⟨(i,false),[],0,0⟩ 0 ⟨(i,false),nd,te,de⟩ gv) :
 Z2 ⟨3,b.2,0,0,d.2,S,nd,root,te,de,[]⟩ ((a::b::c::d::e::v)++w::gv) (v.length+5):=by
 have hl:(a::b::c::d::e::v).length=v.length+5:=rfl;have e1:((a::b::c::d::e::v)++w::gv).take (v.length+5)=a::b::c::d::e::v:=List.take_left' hl
 have e2:((a::b::c::d::e::v)++w::gv).drop (v.length+5+1)=gv:=by
  rw[show (a::b::c::d::e::v)++w::gv=((a::b::c::d::e::v)++[w])++gv by simp];exact List.drop_left' (by simp)
 obtain⟨y,L,w1,w2,w3,w4,w5,w6⟩:=hW;simp only at w3 w4 w6
 have hy:y=(te,de):=by
  obtain⟨y1,y2⟩:=y;simp only at w2 w3 w4;have h1:y1=te:=by omega
  have h2:y2=de:=by omega
  rw[h1,h2]
 refine⟨?_,by omega,?_,rfl,zIH,?_,?_,?_,?_,?_,?_,?_,by rw[e1];exact hSS,k,x,by rw[e2];exact hG⟩
 ·rw[Dk _ w gv hwn hw 0,hl];simp
 ·have hp:=hG.pos;simp only[tq,p7];omega
 ·rw[e1]
  simp only[kK,ha,hb,hc,hd,he];rw[tg (by decide),tg (by decide),tg (by decide),tg (by decide)];have:=hS.count;omega
 ·rw[e1,yf ha hb hc hd he (by decide)];exact hS.big _
 ·intro k hk hcl
  have hk2:cA ((a::b::c::d::e::v)++w::gv) k=cA (a::b::c::d::e::v) k:=by
   unfold cA tA;rw[List.getD,List.getD,pw (by rw[hl];exact hk)]
  rw[hk2]at hcl
  match k,hk,hcl with
  | 0,_,h=>exact absurd (ha.symm.trans h) (by decide)
  | 1,_,h=>exact absurd (hb.symm.trans h) (by decide)
  | 2,_,h=>exact absurd (hc.symm.trans h) (by decide)
  | 3,_,h=>exact absurd (hd.symm.trans h) (by decide)
  | 4,_,h=>exact absurd (he.symm.trans h) (by decide)
  | k+5,hk,h =>
    obtain⟨h1,h2⟩:=hS.star k (by omega) h;refine⟨by omega,?_⟩;obtain⟨m,rfl⟩:∃m,k=m+1:=⟨k-1,by omega⟩
    have hk3:cA ((a::b::c::d::e::v)++w::gv) (m+5)=cA (a::b::c::d::e::v) (m+5):=by
     unfold cA tA;rw[List.getD,List.getD,pw (by rw[hl];omega)]
    show cA _ (m+5)=yB;rw[hk3];exact h2
 ·rw[e1];exact hS.needs
 ·rw[e2,w5 xO [] ⟨by decide,by decide⟩ (by decide),w6];rfl
 ·rw[e2,<-hy];exact w1
 ·intro n hn
  rw[e2];refine(vm hG n ?_).2;simp only[tq,p7]at hn;omega
theorem FM{len:Nat}(zIW:fQ ts)(zIC:ts.length<=4000)(hi:i<ts.length)(hc:cA ts i=zR):Z6 ts len i (pK (pp ts len) (i+1,false)):=by
 have hf:FA ts len i jF 0=FA ts len (i+1) zR 0:=qE hi hc rfl (by decide) rfl;have w0:=(cQ (by decide) hc).2;rcases fJ (len:=len) (show i+1<=ts.length from hi) with ⟨c1,i1,e1⟩|⟨c1,e1⟩
 rotate_left
 ·exact .inl (kB (jK (nK (jK (JV (jK (DB (jK (by rw[e1])))))))) (Zv (by omega) (by decide) (show jR zR=[yU] by decide) c1) hf)
 have f1:=hf.trans (qE i1 c1 (show zO zR yU 0=B6 from rfl) (by decide) rfl);rcases gI (len:=len) (t:=[58]) (show i+1+1<=ts.length from i1) (by decide) with ⟨c2,i2,e2⟩|⟨c2,e2⟩
 rotate_left
 ·exact .inl (kB (jK (nK (jK (JV (jK (DB (by rw[e1,e2]))))))) (Zv (by omega) (by decide) (show jR B6=[[58]] by decide) c2) f1)
 have f2:=f1.trans (qE i2 c2 (show zO B6 [58] 0=B7 from rfl) (by decide) rfl);have w2:=(cQ (by decide) c2).2;rcases fJ (len:=len) (show i+1+1+1<=ts.length from i2) with ⟨c3,i3,e3⟩|⟨c3,e3⟩
 rotate_left
 ·exact .inl (kB (jK (nK (jK (JV (jK (by rw[e1,e2,e3])))))) (Zv (by omega) (by decide) (show jR B7=[yU] by decide) c3) f2)
 have f3:=f2.trans (qE i3 c3 (show zO B7 yU 0=uk from rfl) (by decide) rfl);rcases gI (len:=len) (t:=[61]) (show i+1+1+1+1<=ts.length from i3) (by decide) with ⟨c4,i4,e4⟩|⟨c4,e4⟩
 rotate_left
 ·exact .inl (kB (jK (nK (jK (JV (by rw[e1,e2,e3,e4]))))) (Zv (by omega) (by decide) (show jR uk=[[61]] by decide) c4) f3)
 have f4:=f3.trans (qE i4 c4 (show zO uk [61] 0=fW from rfl) (by decide) rfl);have w4:=(cQ (by decide) c4).2;have hS:=zBY (len:=len) zIW (pp ts len).length (i+1+1+1+1+1) false [] i4 (by rw[eY];omega);simp only[pK,e1,e2,e3,e4];have eS:tQ (pp ts len) (i+1+1+1+1+1,false)=dI (pp ts len) (pp ts len).length false (i+1+1+1+1+1,false) []:=rfl;rw[eS];generalize dI (pp ts len) (pp ts len).length false (i+1+1+1+1+1,false) []=r at hS ⊢;obtain⟨S,⟨j,f⟩⟩:=r;rcases hS with ⟨g1,g2⟩|⟨g1,g2,g3,g4,g5,new,v,g6,g7,g8,g9,g10,g11,g12,gT,gS⟩
 ·simp only at g1;subst g1
  exact .inl (kB (jK (nK (jK rfl))) g2 f4)
 simp only[bf]at g1 g2 g3 g4 g5 g6 g10;subst g1 g6;rcases gI (len:=len) (t:=xO) g3 (by decide) with ⟨c5,i5,e5⟩|⟨c5,e5⟩
 rotate_left
 ·exact .inl (kB (jK (nK e5)) (g5 c5) f4)
 have f5:=f4.trans (g4 c5);have w5:=(cQ (by decide) c5).2;simp only[e5];have hG:=GN (len:=len) zIW (show j+1<=ts.length from i5);generalize vY (pp ts len) (j+1,false)=y at hG ⊢;obtain⟨root,⟨⟨m,f⟩,nd,te,de⟩⟩:=y;rcases hG with ⟨k1,k2⟩|⟨k1,k2,k3,k4,k5,k6,k7,k8,gv,x,k9,k10,k11⟩
 ·simp only at k1;subst k1
  exact .inl (kB (jK rfl) k2 f5)
 simp only at k1 k2 k3 k4 k6 k7 k8 k9 k10;subst k1;have f6:=f5.trans k4;rcases gI (len:=len) (t:=[59]) k3 (by decide) with ⟨c7,i7,e7⟩|⟨c7,e7⟩
 rotate_left
 ·exact .inl (kB (by simp only[e7]) (gV k3 (ZU (k8 (by decide)) (k7 (by decide)) (fun _=>rfl) (fun e=>absurd e c7)) (.inr (by decide))) f6)
 have f7:=f6.trans (qE i7 c7 (show zO qJ [59] 0=jF from rfl) (by decide) rfl);simp only[e7];have hb:=k9.bound
 have hlv:v.length<=ts.length:=by
  have h1:=congrArg List.length g10;simp only[tq,ty]at h1;omega
 have hlx:gv.length<=ts.length:=by
  have h1:=congrArg List.length k10;simp only[tq,ty]at h1;omega
 refine .inr ⟨rfl,(by show i<m+1;omega),i7,f7,⟨.inr (.inr (.inl rfl)),by simp,by simp,by simp,by simp,?_,(by show S.length<=10000;omega),k6,fun _=>⟨g7,hb.1,hb.2⟩⟩,
  (TT ts i::TT ts (i+1)::TT ts (i+1+1)::TT ts (i+1+1+1)::TT ts (i+1+1+1+1)::v)++TT ts j::gv,TT ts m,?_,c7,?_,?_,fun n hn=>FL ?_ ?_ c5 k9 (by omega) ?_⟩
 ·intro a ha
  have ha':a<S.length:=ha;show 0<=(YB S a).num/\(YB S a).num<=9999;unfold YB;rw[List.getD,pe ha'];exact g9 _ (List.getElem_mem ha')
 ·rw[zJ ts i hi,zJ ts (i+1) i1,zJ ts (i+1+1) i2,zJ ts (i+1+1+1) i3,zJ ts (i+1+1+1+1) i4,g10,zJ ts j i5,k10,zJ ts m i7]
  simp
 ·intro t ht
  rcases pt.1 ht with ht|ht
  ·simp only[pi]at ht
   rcases ht with rfl|rfl|rfl|rfl|rfl|ht
   ·show cA ts i≠qQ;rw[hc];decide
   ·show cA ts (i+1)≠qQ;rw[c1];decide
   ·show cA ts (i+1+1)≠qQ;rw[c2];decide
   ·show cA ts (i+1+1+1)≠qQ;rw[c3];decide
   ·show cA ts (i+1+1+1+1)≠qQ;rw[c4];decide
   ·exact(g11 t ht).1
  ·rcases pi.1 ht with rfl|ht
   ·show cA ts j≠qQ;rw[c5];decide
   ·exact k9.noEnd t ht
 ·have hg0:0<v.length:=by omega
  have hwn:∀t∈(TT ts i::TT ts (i+1)::TT ts (i+1+1)::TT ts (i+1+1+1)::TT ts (i+1+1+1+1)::v),zS t.2≠xO:=by
   intro t ht;simp only[pi]at ht;rcases ht with rfl|rfl|rfl|rfl|rfl|ht
   ·show cA ts i≠xO;rw[hc];decide
   ·show cA ts (i+1)≠xO;rw[c1];decide
   ·show cA ts (i+1+1)≠xO;rw[c2];decide
   ·show cA ts (i+1+1+1)≠xO;rw[c3];decide
   ·show cA ts (i+1+1+1+1)≠xO;rw[c4];decide
   ·exact(g11 t ht).2
  refine⟨by simp,?_,rfl,.inr (.inr (.inr ⟨rfl,hc,v.length+5,FK hc c1 c2 c3 c4 c5 hwn hg0 (zIW.at' i3).1 gT gS k9 k11⟩))⟩
  have hall:(TT ts i::TT ts (i+1)::TT ts (i+1+1)::TT ts (i+1+1+1)::TT ts (i+1+1+1+1)::v)++TT ts j::gv++TT ts m::ts.drop (m+1)=ts.drop i:=by
   rw[zJ ts i hi,zJ ts (i+1) i1,zJ ts (i+1+1) i2,zJ ts (i+1+1+1) i3,zJ ts (i+1+1+1+1) i4,g10,zJ ts j i5,k10,zJ ts m i7];simp
  intro t ht;refine zIW t (List.mem_of_mem_drop (i:=i) ?_);rw[<-hall];exact List.mem_append_left _ ht
 ·show cA ts i=zR;exact hc
 ·intro t ht
  simp only[pi]at ht;rcases ht with rfl|rfl|rfl|rfl|rfl|ht
  ·show cA ts i≠xO;rw[hc];decide
  ·show cA ts (i+1)≠xO;rw[c1];decide
  ·show cA ts (i+1+1)≠xO;rw[c2];decide
  ·show cA ts (i+1+1+1)≠xO;rw[c3];decide
  ·show cA ts (i+1+1+1+1)≠xO;rw[c4];decide
  ·exact(g11 t ht).2
 ·intro st
  show eL (gX nd nd.length root.toNat (yV xO (Yk S 0 (yV [61] (yV (tA ts (i+1+1+1)) (yV [58] (yV (tA ts (i+1)) (yV zR st))))))))=_;rw[w_gr k9 nd.length _ (by omega),g12,eX];show _=eL (yV x.1 (yV (tA ts j) (jA v (yV (tA ts (i+1+1+1+1)) (yV (tA ts (i+1+1+1)) (yV (tA ts (i+1+1)) (yV (tA ts (i+1)) (yV (tA ts i) st))))))));rw[w0,w2,w4,w5];rfl
theorem VQ{len:Nat}(zIW:fQ ts)(zIC:ts.length<=4000)(hi:i<ts.length):Z6 ts len i (uH (pp ts len) (i,false)):=by
 unfold uH;rcases cW (len:=len) (t:=[110,117,109]) (p8 hi) (by decide) with ⟨c1,_,e1⟩|⟨c1,e1⟩
 ·simp only[e1];exact qp zIW hi c1
 simp only[e1];rcases cW (len:=len) (t:=[102,108,97,103]) (p8 hi) (by decide) with ⟨c2,_,e2⟩|⟨c2,e2⟩
 ·simp only[e2];exact GU zIW hi c2
 simp only[e2];rcases cW (len:=len) (t:=[114,117,108,101]) (p8 hi) (by decide) with ⟨c3,_,e3⟩|⟨c3,e3⟩
 ·simp only[e3];exact FM zIW zIC hi c3
 simp only[e3];rcases gI (len:=len) (t:=[111,118,101,114]) (p8 hi) (by decide) with ⟨c4,_,e4⟩|⟨c4,e4⟩
 ·simp only[e4];exact Gi zIW hi c4
 simp only[e4];refine .inl (kB (j:=i) (by simp only[kT,Cv,rJ]) ?_ rfl);exact gV (p8 hi) (mV (by decide) (by decide) (by rw[Cn];simp only[pi,l9,dn];rintro(h|h|h|h);exact c1 h;exact c2 h;exact c4 h;exact c3 h)) (.inl hi)
theorem VP(u:zG)(e:Nat × Bs)(r:zG)(hu:∀t∈u,zS t.2≠qQ)(he:zS e.2=qQ):∀k a,uD (u++e::r) k a=(a,k+u.length-a)::uD r (k+u.length+1) (k+u.length+1):=by
 induction u with
 | nil=>intro k a;rw[bf,uD,tl he];rfl
 | cons t u ih =>
   intro k a;rw[bw,uD,tg (hu t (mw ..)),ih (fun x hx=>hu x (cd _ hx)),p7,show k+1+u.length=k+(u.length+1) by omega]
theorem DK(j:Nat)(acc:List zF):(pZ P n (j,true) acc).2=(j,true):=by
 cases n <;> rfl
def yP:List zF->List zG->Prop
 | [],[]=>True
 | x::xs,u::us=>LT x u/\yP xs us
 | _,_=>False
theorem jq{len:Nat}(hi:i<=ts.length):(yW (pp ts len) i).k=0 ↔ i=ts.length:=by
 constructor
 ·intro h
  rcases po i ts.length with h1|h1
  ·rw[oM h1]at h
   have h':vU (tA ts i)=0:=h;rcases aO (tA ts i) with ⟨h2,_⟩|⟨h2,_⟩|⟨h2,_⟩|⟨h2,_⟩ <;> omega
  ·omega
 ·rintro rfl;rw[aN]
def US(ts:zG)(len i:Nat)(acc:List zF)(r:List zF × St):Prop :=
 (r.2.2=true/\FA ts len i jF 0=((yW (pp ts len) r.2.1).p:Int)) \/
 (r.2.2=false/\FA ts len i jF 0<0/\∃new,r.1=acc++new/\(∀x∈new,gE x)/\yP new ((uD (ts.drop i) i i).map (nZ ts)) /\
  ∀n,ts.length<n->(∀p∈uD (ts.drop i) i i,Un n (nZ ts p))/\∀out,JT new (out,false)=(Xo n ts (uD (ts.drop i) i i) out,false))
theorem G3{len:Nat}(zIW:fQ ts)(zIC:ts.length<=4000)(n:Nat):∀(i:Nat) (acc:List zF),i<=ts.length->wD (pp ts len) (i,false)<=n->US ts len i acc (pZ (pp ts len) n (i,false) acc):=by
 induction n with
 | zero=>intro i acc hi h;unfold wD at h;rw[eY]at h;simp only at h;omega
 | succ n ih =>
   intro i acc hi hn;rw[pZ];simp only;by_cases hk:(yW (pp ts len) i).k=0
   ·rw[tl hk]
    obtain rfl:=(jq hi).1 hk;refine .inr ⟨rfl,?_,[],by simp,by simp,?_,fun n _=>⟨?_,?_⟩⟩
    ·unfold FA;rw[List.drop_length,jB,tl rfl];decide
    ·rw[List.drop_length,uD];trivial
    ·intro p hp;rw[List.drop_length,uD]at hp;simp at hp
    ·intro out;rw[List.drop_length,uD];rfl
   ·rw[tg hk]
    have hi':i<ts.length:=by
     rcases po i ts.length with h|h
     ·exact h
     ·exact absurd ((jq (len:=len) hi).2 (by omega)) hk
    have hg:=QY (P:=pp ts len) (s:=(i,false)) rfl (by rw[eY];show i<ts.length+1;omega);have hL:=VQ (len:=len) zIW zIC hi';generalize uH (pp ts len) (i,false)=r at hL hg ⊢;obtain⟨x,⟨j,f⟩⟩:=r;rcases hL with ⟨h1,h2⟩|⟨h1,h2,h3,h4,h5,u,e,h6,h7,h8,hLT,h9⟩
    ·simp only at h1;subst h1
     refine .inl ?_;rw[DK];exact⟨rfl,h2⟩
    ·simp only at h1 h2 h3 h4 h5 h6 h9;subst h1
     have hI:=ih j (acc++[x]) h3 (by simp only at hg;omega)
     have hj:i+u.length+1=j:=by
      have h:=congrArg List.length h6;simp only[tq,ty,p7]at h;omega
     have hl:uD (ts.drop i) i i=(i,u.length)::uD (ts.drop j) j j:=by
      rw[h6,VP u e _ h8 h7,hj,show i+u.length-i=u.length by omega]
     have hs:nZ ts (i,u.length)=u:=by
      unfold nZ;rw[h6];exact List.take_left' rfl
     rcases hI with ⟨g1,g2⟩|⟨g1,g2,new,g3,g4,gL,g5⟩
     ·exact .inl ⟨g1,by rw[h4];exact g2⟩
     ·refine .inr ⟨g1,by rw[h4];exact g2,x::new,by rw[g3];simp,?_,?_,fun n hn=>?_⟩
      ·intro y hy
       rcases pi.1 hy with rfl|hy
       ·exact h5
       ·exact g4 y hy
      ·rw[hl,dm,hs];exact⟨hLT,gL⟩
      ·obtain⟨a1,a2⟩:=h9 n hn
       obtain⟨b1,b2⟩:=g5 n hn;rw[hl];refine⟨?_,fun out=>?_⟩
       ·intro p hp
        rcases pi.1 hp with rfl|hp
        ·rw[hs];exact a1
        ·exact b1 p hp
       ·rw[JT,a2,b2,Xo,hs]
theorem Km:∀s acc,(pZ P n s acc).1.length<=acc.length+n:=by
 induction n with
 | zero=>intro s acc;exact t9 _
 | succ n ih =>
   intro s acc;rw[pZ];split
   ·simp only;omega
   ·split
    ·simp only;omega
    ·have:=ih (uH P s).2 (acc++[(uH P s).1])
     simp only[tq,pd]at this;omega
theorem Fz(ts:zG)(ps:List (Nat × Nat)):∀s,(Xo n ts ps s).length<=s.length+Y3 ts ps:=by
 induction ps with
 | nil=>intro s;simp[Xo,Y3]
 | cons p r ih =>
   intro s;rw[Xo,Y3];have h1:=ih (s++lU n (nZ ts p)++[59,10]);have h2:=Kz n (nZ ts p);simp only[tq,p7,List.length_nil]at h1;omega
structure UP(l:Bs):Prop where
 place:(xZ l).2.2=true->tS l=((yW (Z9 l) (xZ l).2.1).p:Int)
 lines:(xZ l).2.2=false->yP (xZ l).1 ((qV (yR l 0)).map (nZ (yR l 0)))
theorem ZF{n:Nat}{l:Bs}(hl:l.length<=4000)(hn:4000<n):UO n l/\UP l:=by
 have ht:(yR l 0).length<=4000:=tx (kY l 0) hl;have eP:Z9 l=pp (yR l 0) l.length:=rfl;have eF:FA (yR l 0) l.length 0 jF 0=tS l:=rfl;have hR:=G3 (len:=l.length) (QX l) ht (2*(Z9 l).length+1) 0 [] (tr _) (by rw[eP];unfold wD;simp only;omega);rw[<-eP]at hR;have eR:pZ (Z9 l) (2*(Z9 l).length+1) (0,false) []=xZ l:=rfl;rw[eR]at hR;unfold US at hR;rw[eF,<-eP]at hR
 have hm:(xZ l).1.length<=10000:=by
  have:=Km (Z9 l) (2*(Z9 l).length+1) (0,false) [];rw[eR,eP,eY]at this;simp only[List.length_nil]at this;omega
 have hs:(Dp n l).length<=zGT:=by
  have h1:=Fz n (yR l 0) (qV (yR l 0)) [];have h2:=zm (yR l 0);have h3:=Fy l;unfold Dp zGT;simp only[List.length_nil]at h1;omega
 rcases hR with ⟨h1,h2⟩|⟨h1,h2,new,h3,h4,hA,h5⟩
 ·refine⟨⟨fun _=>by rw[h2];exact Int.natCast_nonneg _,fun h=>?_,fun h=>?_,hm,fun h=>?_,hs,fun h=>?_⟩,fun _=>h2,fun h=>?_⟩
  ·rw[h1]at h;exact absurd h (by decide)
  ·rw[h1]at h;exact absurd h (by decide)
  ·rw[h1]at h;exact absurd h (by decide)
  ·rw[h2]at h;exact absurd h (by omega)
  ·rw[h1]at h;exact absurd h (by decide)
 ·obtain⟨a1,a2⟩:=h5 n (by omega)
  rw[bf]at h3;refine⟨⟨fun h=>?_,fun _=>h2,fun _=>?_,hm,fun _=>?_,hs,fun _=>a1⟩,fun h=>?_,fun _=>?_⟩
  ·rw[h1]at h;exact absurd h (by decide)
  ·rw[h3];exact h4
  ·rw[h3,a2];rfl
  ·rw[h1]at h;exact absurd h (by decide)
  ·rw[h3];exact hA
end Go.Proofs.YtnbpdffdnphbeaaGreatDoor
