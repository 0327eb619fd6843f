import Derived.Test.YtnbpdffdnphbeaaGreatDoorPWeight
namespace Go.Proofs.YtnbpdffdnphbeaaGreatDoor
def fZ:Bs:=[112,97,114,116]
def aM:Bs:=[112,97,114,116,101,100]
def nO:Bs:=[99,111,117,110,116,101,100]
def zh:Bs:=[116,105,109,101,115]
theorem Bj:jI fZ=[yQ,zV]:=by decide
theorem J7:jI aM=[[43],[45],xY]:=by decide
theorem Qk:jI nO=[[42],[43],[45],xY]:=by decide
theorem KK:jI zh=[yQ]:=by decide
abbrev JD(c:Bs):Prop:=c≠qH/\c≠xY
def Jm(x:xB)(v:zI):Prop :=
 (∃a b c,v=[a,b,c]/\zX a.2=zV/\zX b.2=[42]/\zX c.2=yQ/\c.2≠[]/\x.starred=true/\x.num=xH 0 a.2/\x.name=c.2) \/
 (∃a,v=[a]/\zX a.2=zV/\x.starred=false/\x.num=xH 0 a.2/\x.name=[]) \/
 (∃a,v=[a]/\zX a.2=yQ/\a.2≠[]/\x.starred=false/\x.num=0/\x.name=a.2)
def VV:Bool->List xB->zI->Prop
 | _,[],_=>False
 | m,x::r,v=>x.minus=m/\((r=[]/\Jm x v)\/∃v1 t v2,v=v1++t::v2/\Jm x v1/\((zX t.2=[45]/\VV true r v2)\/(zX t.2=[43]/\VV false r v2)))
def zCE(ts:zI)(len i:Nat)(m:Bool)(r:xB × St):Prop :=
 (r.2.2=true/\FA ts len i fZ 0=((yP (pp ts len) r.2.1).p:Int)) \/
 (r.2.2=false/\i<r.2.1/\r.2.1<=ts.length/\(∃st,(st=aM\/st=nO/\cA ts r.2.1≠[42])/\FA ts len i fZ 0=FA ts len r.2.1 st 0)/\r.1.minus=m/\(0<=r.1.num/\r.1.num<=9999) /\
  ∃v,ts.drop i=v++ts.drop r.2.1/\0<v.length/\(∀t∈v,JD (zX t.2))/\(∀st,Cu r.1 st=kP v st)/\Qt v [r.1]/\Jm r.1 v)
theorem U0{a b c:Nat × Bs}(ha:zX a.2=zV)(hb:zX b.2=[42])(hc:zX c.2=yQ)(hn:c.2≠[])(m:Bool):Qt [a,b,c] [⟨m,true,xH 0 a.2,c.2⟩]:=by
 refine⟨?_,?_,?_,?_⟩
 ·simp only[cF,ha,hb,hc]
  rw[if_neg (by decide),if_neg (by decide),if_pos trivial];simp[sC,hn]
 ·simp only[qV,ha,hb,hc]
  rw[if_neg (by decide),if_neg (by decide),if_neg (by decide)];rfl
 ·intro p
  simp only[mD,ha,hb,hc];rw[decide_eq_false (by decide:¬zV=[42]),decide_eq_false (by decide:¬yQ=[42])];simp[jT]
 ·intro k hk h
  have:k=0\/k=1\/k=2:=by simp at hk;omega
  rcases this with rfl|rfl|rfl
  ·exact absurd (ha.symm.trans h) (by decide)
  ·exact⟨by decide,ha⟩
  ·exact absurd (hc.symm.trans h) (by decide)
theorem z6{a:Nat × Bs}(ha:zX a.2=zV)(m:Bool):Qt [a] [⟨m,false,xH 0 a.2,[]⟩]:=by
 refine⟨?_,?_,?_,?_⟩
 ·simp only[cF,ha];rw[if_neg (by decide)];simp[sC]
 ·simp only[qV,ha];rw[if_neg (by decide)];rfl
 ·intro p;simp only[mD,ha];rw[decide_eq_false (by decide:¬zV=[42])];simp[jT]
 ·intro k hk h
  obtain rfl:k=0:=by simp at hk;exact hk
  exact absurd (ha.symm.trans h) (by decide)
theorem Dx{a:Nat × Bs}(ha:zX a.2=yQ)(hn:a.2≠[])(m:Bool):Qt [a] [⟨m,false,0,a.2⟩]:=by
 refine⟨?_,?_,?_,?_⟩
 ·simp only[cF,ha];rw[if_pos trivial];simp[sC,hn]
 ·simp only[qV,ha];rw[if_neg (by decide)];rfl
 ·intro p;simp only[mD,ha];rw[decide_eq_false (by decide:¬yQ=[42])];simp[jT]
 ·intro k hk h
  obtain rfl:k=0:=by simp at hk;exact hk
  exact absurd (ha.symm.trans h) (by decide)
theorem zAP{ts:zI}(zGN:fO ts){i:Nat}(hi:i<ts.length):(tA ts i).isEmpty=false:=by
 have:=(zGN.at' hi).1
 cases hx:tA ts i with
 | nil=>exact absurd hx this
 | cons a b=>rfl
theorem yd{ts:zI}{len i:Nat}(zGN:fO ts)(h:i<=ts.length)(m:Bool):zCE ts len i m (qC (pp ts len) m (i,false)):=by
 rcases wN (len:=len) h with ⟨hc,hi,e⟩|⟨hc,e⟩
 ·have e0:=YC (len:=len) h false
  rw[decide_eq_true hc]at e0;obtain⟨v1,v2⟩:=Xl (zGN.at' hi) hc;have hf:FA ts len i fZ 0=FA ts len (i+1) nO 0:=uT hi hc rfl (by decide) rfl;rcases cU (len:=len) (show i+1<=ts.length from hi) (t:=[42]) (by decide) with ⟨hc2,hi2,e2⟩|⟨hc2,e2⟩
  ·have hw:=(cP (by decide) hc2).2
   have hf2:FA ts len i fZ 0=FA ts len (i+1+1) zh 0:=hf.trans (uT hi2 hc2 rfl (by decide) rfl);rcases fG (len:=len) (show i+1+1<=ts.length from hi2) with ⟨hc3,hi3,e3⟩|⟨hc3,e3⟩
   ·have e':qC (pp ts len) m (i,false)=(⟨m,true,xH 0 (tA ts i),tA ts (i+1+1)⟩,(i+1+1+1,false)):=by
     simp only[qC,e0,e,e2,e3]
    rw[e'];refine .inr ⟨rfl,(by show i<i+1+1+1;omega),hi3,⟨aM,.inl rfl,hf2.trans (uT hi3 hc3 rfl (by decide) rfl)⟩,rfl,v1,[TT ts i,TT ts (i+1),TT ts (i+1+1)],?_,by simp,?_,?_,U0 hc hc2 hc3 (zGN.at' hi3).1 m,.inl ⟨_,_,_,rfl,hc,hc2,hc3,(zGN.at' hi3).1,rfl,rfl,rfl⟩⟩
    ·rw[zO ts i hi,zO ts (i+1) hi2,zO ts (i+1+1) hi3];rfl
    ·intro t ht
     simp only[List.mem_cons,List.not_mem_nil,or_false]at ht;rcases ht with rfl|rfl|rfl
     ·show JD (cA ts i);rw[hc];decide
     ·show JD (cA ts (i+1));rw[hc2];decide
     ·show JD (cA ts (i+1+1));rw[hc3];decide
    ·intro st
     show xC (tA ts (i+1+1)) (xC [42] (eT (xH 0 (tA ts i)) st))=xC (tA ts (i+1+1)) (xC (tA ts (i+1)) (xC (tA ts i) st));rw[eT,v2,hw]
   ·have e':(qC (pp ts len) m (i,false)).2=(i+1+1,true):=by
     simp only[qC,e0,e,e2,e3]
    refine .inl ⟨by rw[e'],?_⟩;rw[e',hf2];exact nK hi2 (mS (by decide) (by decide) (by rw[KK];simpa using hc3)) (.inr (by decide))
  ·have e':qC (pp ts len) m (i,false)=(⟨m,false,xH 0 (tA ts i),[]⟩,(i+1,false)):=by
    simp only[qC,e0,e,e2]
   rw[e'];refine .inr ⟨rfl,(by show i<i+1;omega),hi,⟨nO,.inr ⟨rfl,hc2⟩,hf⟩,rfl,v1,[TT ts i],zO ts i hi,by simp,?_,?_,z6 hc m,.inr (.inl ⟨_,rfl,hc,rfl,rfl,rfl⟩)⟩
   ·intro t ht;obtain rfl:=List.mem_singleton.1 ht
    show JD (cA ts i);rw[hc];decide
   ·intro st
    show eT (xH 0 (tA ts i)) st=xC (tA ts i) st;rw[eT,v2]
 ·have e0:=YC (len:=len) h false
  rw[decide_eq_false hc]at e0;rcases fG (len:=len) h with ⟨hc3,hi3,e3⟩|⟨hc3,e3⟩
  ·have e':qC (pp ts len) m (i,false)=(⟨m,false,0,tA ts i⟩,(i+1,false)):=by
    simp only[qC,e0,e3]
   rw[e'];refine .inr ⟨rfl,(by show i<i+1;omega),hi3,⟨aM,.inl rfl,uT hi3 hc3 rfl (by decide) rfl⟩,rfl,by simp,[TT ts i],zO ts i hi3,by simp,?_,?_,Dx hc3 (zGN.at' hi3).1 m,.inr (.inr ⟨_,rfl,hc3,(zGN.at' hi3).1,rfl,rfl,rfl⟩)⟩
   ·intro t ht;obtain rfl:=List.mem_singleton.1 ht
    show JD (cA ts i);rw[hc3];decide
   ·intro st
    show Cu ⟨m,false,0,tA ts i⟩ st=xC (tA ts i) st;simp only[Cu,zAP zGN hi3]
  ·have e':(qC (pp ts len) m (i,false)).2=(i,true):=by
    simp only[qC,e0,e3]
   refine .inl ⟨by rw[e'],?_⟩;rw[e'];exact nK h (mS (by decide) (by decide) (by rw[Bj];simp[hc,hc3])) (.inr (by decide))
theorem zDN(P:List PT)(m:Bool)(i:Nat):(qC P m (i,true)).2=(i,true):=by
 unfold qC;split <;> rfl
theorem zFI(P:List PT)(n:Nat)(m:Bool)(i:Nat)(ps:List xB):(dF P n m (i,true) ps).2=(i,true):=by
 cases n with
 | zero=>rfl
 | succ n =>
   rw[dF,zDN];rfl
def zER(ts:zI)(len i:Nat)(m:Bool)(ps:List xB)(r:List xB × St):Prop :=
 (r.2.2=true/\FA ts len i fZ 0=((yP (pp ts len) r.2.1).p:Int)) \/
 (r.2.2=false/\i<r.2.1/\r.2.1<=ts.length/\(cA ts r.2.1=xY->FA ts len i fZ 0=FA ts len (r.2.1+1) bE 0)/\(cA ts r.2.1≠xY->FA ts len i fZ 0=((yP (pp ts len) r.2.1).p:Int)) /\
  ∃new v,r.1=ps++new/\0<new.length/\new.length<=v.length/\(∀y∈new,0<=y.num/\y.num<=9999)/\ts.drop i=v++ts.drop r.2.1/\(∀t∈v,JD (zX t.2)) /\
   (∀k st,ZP new k st=kP v (Ct m k st))/\Qt v new/\VV m new v)
theorem GY{st:Bs}{c:Bs}(h:st=aM\/st=nO)(hc:c=[45]\/c=[43]):zT st c 0=fZ/\opn c 0=0:=by
 rcases h with rfl|rfl <;> rcases hc with rfl|rfl <;> exact⟨rfl,rfl⟩
theorem jx{ts:zI}{len:Nat}(zGN:fO ts)(n:Nat):∀(i:Nat) (m:Bool) (ps:List xB),i<=ts.length->ts.length+1-i<=n->zER ts len i m ps (dF (pp ts len) n m (i,false) ps):=by
 induction n with
 | zero=>intro i m ps h1 h2;omega
 | succ n ih =>
   intro i m ps hi hn;rw[dF];have hP:=yd (len:=len) zGN hi m;generalize qC (pp ts len) m (i,false)=r at hP ⊢;obtain⟨y,⟨j,f⟩⟩:=r;rcases hP with ⟨h1,h2⟩|⟨h1,h2,h3,⟨st,zGE,h4⟩,h5,h6,v,h7,h8,h9,h10,hT,hPT⟩
   ·simp only at h1;subst h1
    exact .inl ⟨rfl,h2⟩
   ·simp only at h1 h2 h3 zGE h4 h5 h6 h7 h10;subst h1
    have hst':st=aM\/st=nO:=by rcases zGE with h|h;exact .inl h;exact .inr h.1
    have hsd:st≠uN/\st≠qB/\st≠kX:=by rcases hst' with rfl|rfl <;> decide
    rcases cU (len:=len) h3 (t:=[45]) (by decide) with ⟨hc,hj,e⟩|⟨hc,e⟩
    ·simp only[e]
     have hw:=(cP (by decide) hc).2;obtain⟨n1,n2⟩:=GY hst' (.inl rfl);have hf:FA ts len i fZ 0=FA ts len (j+1) fZ 0:=h4.trans (uT hj hc n1 (by decide) n2);have hI:=ih (j+1) true (ps++[y]) hj (by omega);generalize dF (pp ts len) n true (j+1,false) (ps++[y])=r at hI ⊢;rcases hI with ⟨g1,g2⟩|⟨g1,g2,g3,g4,g5,new,v',g6,g7,g8,g9,g10,g11,g12,gT,gS⟩
     ·exact .inl ⟨g1,by rw[hf];exact g2⟩
     ·refine .inr ⟨g1,by omega,g3,fun h=>hf.trans (g4 h),fun h=>by rw[hf];exact g5 h,y::new,v++TT ts j::v',by rw[g6];simp,by simp,by simp;omega,?_,?_,?_,?_,?_⟩
      ·intro z hz
       rcases List.mem_cons.1 hz with rfl|hz
       ·exact h6
       ·exact g9 z hz
      ·rw[h7,zO ts j hj,g10];simp
      ·intro t ht
       rcases List.mem_append.1 ht with ht|ht
       ·exact h9 t ht
       ·rcases List.mem_cons.1 ht with rfl|ht
        ·show JD (cA ts j);rw[hc];decide
        ·exact g11 t ht
      ·intro k st
       rw[ZP,g12,h10,h5,eX,kP];show kP v' (xC [45] _)=kP v' (xC (tA ts j) _);rw[hw]
      ·exact⟨hT.join gT (.inr hc),h5,.inr ⟨v,TT ts j,v',rfl,hPT,.inl ⟨hc,gS⟩⟩⟩
    ·simp only[e]
     rcases cU (len:=len) h3 (t:=[43]) (by decide) with ⟨hc2,hj,e2⟩|⟨hc2,e2⟩
     ·simp only[e2]
      have hw:=(cP (by decide) hc2).2;obtain⟨n1,n2⟩:=GY hst' (.inr rfl);have hf:FA ts len i fZ 0=FA ts len (j+1) fZ 0:=h4.trans (uT hj hc2 n1 (by decide) n2);have hI:=ih (j+1) false (ps++[y]) hj (by omega);generalize dF (pp ts len) n false (j+1,false) (ps++[y])=r at hI ⊢;rcases hI with ⟨g1,g2⟩|⟨g1,g2,g3,g4,g5,new,v',g6,g7,g8,g9,g10,g11,g12,gT,gS⟩
      ·exact .inl ⟨g1,by rw[hf];exact g2⟩
      ·refine .inr ⟨g1,by omega,g3,fun h=>hf.trans (g4 h),fun h=>by rw[hf];exact g5 h,y::new,v++TT ts j::v',by rw[g6];simp,by simp,by simp;omega,?_,?_,?_,?_,?_⟩
       ·intro z hz
        rcases List.mem_cons.1 hz with rfl|hz
        ·exact h6
        ·exact g9 z hz
       ·rw[h7,zO ts j hj,g10];simp
       ·intro t ht
        rcases List.mem_append.1 ht with ht|ht
        ·exact h9 t ht
        ·rcases List.mem_cons.1 ht with rfl|ht
         ·show JD (cA ts j);rw[hc2];decide
         ·exact g11 t ht
       ·intro k st
        rw[ZP,g12,h10,h5,eX,kP];show kP v' (Ct false (k+1) _)=kP v' (xC (tA ts j) _);rw[hw,Ct,if_pos (by omega)]
       ·exact⟨hT.join gT (.inl hc2),h5,.inr ⟨v,TT ts j,v',rfl,hPT,.inr ⟨hc2,gS⟩⟩⟩
     ·simp only[e2]
      refine .inr ⟨rfl,h2,h3,?_,?_,[y],v,rfl,by simp,by simp;omega,?_,h7,h9,?_,hT,h5,.inl ⟨rfl,hPT⟩⟩
      ·intro h
       have hj:=(cP (by decide) h).1;have hx:zT st xY 0=bE:=by rcases hst' with rfl|rfl <;> rfl
       exact h4.trans (uT hj h hx (by decide) rfl)
      ·intro h
       rw[h4];refine nK h3 (mS hsd.1 hsd.2.1 ?_) (.inr hsd.2.2);rcases zGE with rfl|⟨rfl,hs⟩
       ·rw[J7];simp[hc,hc2,h]
       ·rw[Qk];simp[hc,hc2,h,hs]
      ·intro z hz;obtain rfl:=List.mem_singleton.1 hz;exact h6
      ·intro k st
       rw[ZP,ZP,h10,h5]
theorem zDC(P:List PT)(i:Nat):(vF P (i,true)).2=(i,true):=by
 simp only[vF,U8,Bt,qf,List.isEmpty_nil]
theorem zEG(P:List PT)(n:Nat)(q:GS)(d:Int)(h:q.s.2=true):(xK P n q d).2.s=q.s:=by
 cases n with
 | zero=>rfl
 | succ n =>
   obtain⟨⟨i,f⟩,nd,te,de⟩:=q;obtain rfl:f=true:=h;rw[xK,U8];simp only[U8];show (vF P (i,true)).2=(i,true);rw[zDC]
theorem zBF(P:List PT)(i:Nat):(vU P (i,true)).2.s=(i,true):=by
 unfold vU Zz eD mI;have h1:(xK P P.length ⟨(i,true),[],0,0⟩ 0).2.s=(i,true):=zEG P P.length ⟨(i,true),[],0,0⟩ 0 rfl;generalize xK P P.length ⟨(i,true),[],0,0⟩ 0=y at h1 ⊢;have h2:(mV P (fun q=>xK P P.length q 0) yL 2 P.length y.1 y.2).2.s=(i,true):=(mU _ _ _ _ _ _ _ (by rw[h1])).trans h1;generalize mV P (fun q=>xK P P.length q 0) yL 2 P.length y.1 y.2=z at h2 ⊢;exact(mU _ _ _ _ _ _ _ (by rw[h2])).trans h2
theorem jC{P:List PT}{t:Bs}{s:St}{i:Nat}(h:s=(i,true)):zY P t s=(i,true):=by subst h;rfl
theorem CG{P:List PT}{s:St}{i:Nat}(h:s=(i,true)):(zN P s).2=(i,true):=by subst h;rfl
theorem Jw{P:List PT}{s:St}{i:Nat}(h:s=(i,true)):(tG P s).2=(i,true):=by subst h;exact zFI _ _ _ _ _
theorem nX{P:List PT}{s:St}{i:Nat}(h:s=(i,true)):(vU P s).2.s=(i,true):=by subst h;exact zBF _ _
theorem qO{ts:zI}{len i j:Nat}{s:St}{v:Int}(h:s=(j,true))(hv:v=((yP (pp ts len) j).p:Int))(hi:FA ts len i kX 0=v):s.2=true/\FA ts len i kX 0=((yP (pp ts len) s.1).p:Int):=by
 subst h;exact⟨rfl,hi.trans hv⟩
def vE:Bs:=[110,117,109]
def xA:Bs:=[102,108,97,103]
def tW:Bs:=[111,118,101,114]
def Jy:Bs:=[101,110,100]
def Q5:Bs:=[108,97,115,116]
def zm:Bs:=[102,114,111,109]
def sTo:Bs:=[116,111]
def zi:Bs:=[116,105,108,108]
def UD:Bs:=[108,97,98,101,108]
def UE:Bs:=[99,111,108,111,110]
def zl:Bs:=[104,101,97,100]
theorem Bk:jI kX=[vE,xA,tW,zW]:=by decide
structure Zl(x:zH)(u:zI)(w:Nat):Prop where
 whenAt:mN u 0=some w
 wlo:5<w
 whi:w+1<u.length
 conc:tA u 3=x.conc
 ne:x.conc≠[]
 parts:qV (u.take w)+1=x.sum.length
 big:mD [] (u.take w)=x.sum.any jT
 stars:∀k,k<w->cA u k=[42]->0<k/\cA u (k-1)=zV
 needs:cF ((u.take w).drop 5)=x.sum.flatMap sC
 needs2:qN xY (u.drop (w+1)) []=jV x.nd
 wt:eE (u.drop (w+1)) (x.tests,x.dep)
 good:∀n,u.length<n->qD n (u.drop (w+1))=true
 sums:VV false x.sum ((u.take w).drop 5)
 gr:∃k y,Gr k (u.drop (w+1)) y x.nd x.root
structure LT(x:zH)(u:zI):Prop where
 two:2<=u.length
 toks:fO u
 name:tA u 1=x.name
 kind:(x.kind=1/\cA u 0=vE/\5<=u.length/\cA u 2=zV/\cA u 4=zV/\xH 0 (tA u 2)=x.low/\xH 0 (tA u 4)=x.high)\/(x.kind=2/\cA u 0=xA) \/
  (x.kind=4/\cA u 0=tW/\3<=u.length/\tA u 2=x.lower)\/(x.kind=3/\cA u 0=zW/\∃w,Zl x u w)
theorem fO.get{ts:zI}(h:fO ts){i:Nat}(hi:i<ts.length):VU (TT ts i).2:=h.at' hi
def Zo(ts:zI)(len i:Nat)(r:zH × St):Prop :=
 (r.2.2=true/\FA ts len i kX 0=((yP (pp ts len) r.2.1).p:Int)) \/
 (r.2.2=false/\i<r.2.1/\r.2.1<=ts.length/\FA ts len i kX 0=FA ts len r.2.1 kX 0/\gU r.1 /\
  ∃u e,ts.drop i=u++e::ts.drop r.2.1/\zX e.2=qH/\(∀t∈u,zX t.2≠qH) /\
   LT r.1 u/\∀n,ts.length<n->Vt n u/\∀out,Qx r.1 (out,false)=(out++lM n u++[59,10],false))
theorem Kq(s:Bs)(out:Bs):eU (xC s (out,false))=(out++s++[59,10],false):=rfl
theorem iA{n:Nat}{x:zH}{u:zI}(hu:u≠[])(hr:zX (u.getD 0 (0,[])).2≠zW)(hw:∀st,Qx x st=eU (kP u st)) :
 Vt n u/\∀out,Qx x (out,false)=(out++lM n u++[59,10],false):=by
 refine⟨⟨List.length_pos_iff.2 hu,fun h=>absurd h hr⟩,fun out=>?_⟩;rw[hw,oH hu,Kq,lM,if_neg hr]
theorem Zj{ts:zI}{len i:Nat}{st t:Bs}(h0:i<=ts.length)(h1:st≠uN/\st≠qB/\st≠kX)(h2:jI st=[t])(hc:cA ts i≠t):FA ts len i st 0=((yP (pp ts len) i).p:Int) :=
 nK h0 (mS h1.1 h1.2.1 (by rw[h2];simpa using hc)) (.inr h1.2.2)
theorem Uq(a:Nat)(h:a<([]:List xB).length):0<=(ZO [] a).num/\(ZO [] a).num<=9999:=absurd h (by simp)
theorem yq{ts:zI}{len i:Nat}(zGN:fO ts)(hi:i<ts.length)(hc:cA ts i=vE):Zo ts len i (jF (pp ts len) (i+1,false)):=by
 have hf:FA ts len i kX 0=FA ts len (i+1) vE 0:=uT hi hc rfl (by decide) rfl;rcases fG (len:=len) (show i+1<=ts.length from hi) with ⟨c1,i1,e1⟩|⟨c1,e1⟩
 ·have f1:=hf.trans (uT i1 c1 (show zT vE yQ 0=zm from rfl) (by decide) rfl)
  rcases wN (len:=len) (show i+1+1<=ts.length from i1) with ⟨c2,i2,e2⟩|⟨c2,e2⟩
  ·have f2:=f1.trans (uT i2 c2 (show zT zm zV 0=sTo from rfl) (by decide) rfl)
   obtain⟨v1,v2⟩:=Xl (zGN.at' i2) c2;rcases gX (len:=len) (t:=[46,46]) (show i+1+1+1<=ts.length from i2) (by decide) with ⟨c3,i3,e3⟩|⟨c3,e3⟩
   ·have f3:=f2.trans (uT i3 c3 (show zT sTo [46,46] 0=zi from rfl) (by decide) rfl)
    have w3:=(cP (by decide) c3).2;rcases wN (len:=len) (show i+1+1+1+1<=ts.length from i3) with ⟨c4,i4,e4⟩|⟨c4,e4⟩
    ·have f4:=f3.trans (uT i4 c4 (show zT zi zV 0=Jy from rfl) (by decide) rfl)
     obtain⟨v3,v4⟩:=Xl (zGN.at' i4) c4;rcases gX (len:=len) (t:=[59]) (show i+1+1+1+1+1<=ts.length from i4) (by decide) with ⟨c5,i5,e5⟩|⟨c5,e5⟩
     ·have f5:=f4.trans (uT i5 c5 (show zT Jy [59] 0=kX from rfl) (by decide) rfl)
      have w0:=(cP (by decide) hc).2;simp only[jF,e1,e2,e3,e4,e5]
      refine .inr ⟨rfl,(by show i<i+1+1+1+1+1+1;omega),i5,f5,⟨.inl rfl,v1.1,v1.2,v3.1,v3.2,fun a h=>Uq a h,by simp,aS,fun h=>absurd (show (1:Int)=3 from h) (by decide)⟩,
       [TT ts i,TT ts (i+1),TT ts (i+1+1),TT ts (i+1+1+1),TT ts (i+1+1+1+1)],TT ts (i+1+1+1+1+1),?_,c5,?_,⟨by simp,?_,rfl,.inl ⟨rfl,hc,by simp,c2,c4,rfl,rfl⟩⟩,fun n _=>iA (by simp) ?_ ?_⟩
      ·rw[zO ts i hi,zO ts (i+1) i1,zO ts (i+1+1) i2,zO ts (i+1+1+1) i3,zO ts (i+1+1+1+1) i4,zO ts (i+1+1+1+1+1) i5];rfl
      ·intro t ht
       simp only[List.mem_cons,List.not_mem_nil,or_false]at ht;rcases ht with rfl|rfl|rfl|rfl|rfl
       ·show cA ts i≠qH;rw[hc];decide
       ·show cA ts (i+1)≠qH;rw[c1];decide
       ·show cA ts (i+1+1)≠qH;rw[c2];decide
       ·show cA ts (i+1+1+1)≠qH;rw[c3];decide
       ·show cA ts (i+1+1+1+1)≠qH;rw[c4];decide
      ·intro t ht
       simp only[List.mem_cons,List.not_mem_nil,or_false]at ht;rcases ht with rfl|rfl|rfl|rfl|rfl
       ·exact zGN.get hi
       ·exact zGN.get i1
       ·exact zGN.get i2
       ·exact zGN.get i3
       ·exact zGN.get i4
      ·show cA ts i≠zW;rw[hc];decide
      ·intro st
       show eU (eT (xH 0 (tA ts (i+1+1+1+1))) (xC [46,46] (eT (xH 0 (tA ts (i+1+1))) (xC (tA ts (i+1)) (xC vE st)))))=eU (xC (tA ts (i+1+1+1+1)) (xC (tA ts (i+1+1+1)) (xC (tA ts (i+1+1)) (xC (tA ts (i+1)) (xC (tA ts i) st)))));rw[eT,eT,v2,v4,w3,w0]
     ·exact .inl (qO (by simp only[jF,e1,e2,e3,e4,e5]) (Zj (by omega) (by decide) (show jI Jy=[[59]] by decide) c5) f4)
    ·exact .inl (qO (by simp only[jF,e1,e2,e3,e4,rR]) (Zj (by omega) (by decide) (show jI zi=[zV] by decide) c4) f3)
   ·exact .inl (qO (by simp only[jF,e1,e2,e3,Xk,rR]) (Zj (by omega) (by decide) (show jI sTo=[[46,46]] by decide) c3) f2)
  ·exact .inl (qO (by simp only[jF,e1,e2,Xk,rR]) (Zj (by omega) (by decide) (show jI zm=[zV] by decide) c2) f1)
 ·exact .inl (qO (by simp only[jF,e1,Xk,rR]) (Zj (by omega) (by decide) (show jI vE=[yQ] by decide) c1) hf)
theorem FN{ts:zI}{len i:Nat}(zGN:fO ts)(hi:i<ts.length)(hc:cA ts i=xA):Zo ts len i (tF (pp ts len) (i+1,false)):=by
 have hf:FA ts len i kX 0=FA ts len (i+1) Q5 0:=uT hi hc rfl (by decide) rfl;rcases fG (len:=len) (show i+1<=ts.length from hi) with ⟨c1,i1,e1⟩|⟨c1,e1⟩
 ·have f1:=hf.trans (uT i1 c1 (show zT Q5 yQ 0=Jy from rfl) (by decide) rfl)
  rcases gX (len:=len) (t:=[59]) (show i+1+1<=ts.length from i1) (by decide) with ⟨c5,i5,e5⟩|⟨c5,e5⟩
  ·have f5:=f1.trans (uT i5 c5 (show zT Jy [59] 0=kX from rfl) (by decide) rfl)
   have w0:=(cP (by decide) hc).2;simp only[tF,e1,e5]
   refine .inr ⟨rfl,(by show i<i+1+1+1;omega),i5,f5,⟨.inr (.inl rfl),by simp,by simp,by simp,by simp,fun a h=>Uq a h,by simp,aS,fun h=>absurd (show (2:Int)=3 from h) (by decide)⟩,
    [TT ts i,TT ts (i+1)],TT ts (i+1+1),?_,c5,?_,⟨by simp,?_,rfl,.inr (.inl ⟨rfl,hc⟩)⟩,fun n _=>iA (by simp) ?_ ?_⟩
   ·rw[zO ts i hi,zO ts (i+1) i1,zO ts (i+1+1) i5];rfl
   ·intro t ht
    simp only[List.mem_cons,List.not_mem_nil,or_false]at ht;rcases ht with rfl|rfl
    ·show cA ts i≠qH;rw[hc];decide
    ·show cA ts (i+1)≠qH;rw[c1];decide
   ·intro t ht
    simp only[List.mem_cons,List.not_mem_nil,or_false]at ht;rcases ht with rfl|rfl
    ·exact zGN.get hi
    ·exact zGN.get i1
   ·show cA ts i≠zW;rw[hc];decide
   ·intro st
    show eU (xC (tA ts (i+1)) (xC xA st))=eU (xC (tA ts (i+1)) (xC (tA ts i) st));rw[w0]
  ·exact .inl (qO (by simp only[tF,e1,e5]) (Zj (by omega) (by decide) (show jI Jy=[[59]] by decide) c5) f1)
 ·exact .inl (qO (by simp only[tF,e1,rR]) (Zj (by omega) (by decide) (show jI Q5=[yQ] by decide) c1) hf)
theorem DO{ts:zI}{len i:Nat}(zGN:fO ts)(hi:i<ts.length)(hc:cA ts i=tW):Zo ts len i (kI (pp ts len) (i+1,false)):=by
 have hf:FA ts len i kX 0=FA ts len (i+1) tW 0:=uT hi hc rfl (by decide) rfl;rcases fG (len:=len) (show i+1<=ts.length from hi) with ⟨c1,i1,e1⟩|⟨c1,e1⟩
 ·have f1:=hf.trans (uT i1 c1 (show zT tW yQ 0=Q5 from rfl) (by decide) rfl)
  rcases fG (len:=len) (show i+1+1<=ts.length from i1) with ⟨c2,i2,e2⟩|⟨c2,e2⟩
  ·have f2:=f1.trans (uT i2 c2 (show zT Q5 yQ 0=Jy from rfl) (by decide) rfl)
   rcases gX (len:=len) (t:=[59]) (show i+1+1+1<=ts.length from i2) (by decide) with ⟨c5,i5,e5⟩|⟨c5,e5⟩
   ·have f5:=f2.trans (uT i5 c5 (show zT Jy [59] 0=kX from rfl) (by decide) rfl)
    have w0:=(cP (by decide) hc).2;simp only[kI,e1,e2,e5]
    refine .inr ⟨rfl,(by show i<i+1+1+1+1;omega),i5,f5,⟨.inr (.inr (.inr rfl)),by simp,by simp,by simp,by simp,fun a h=>Uq a h,by simp,aS,fun h=>absurd (show (4:Int)=3 from h) (by decide)⟩,
     [TT ts i,TT ts (i+1),TT ts (i+1+1)],TT ts (i+1+1+1),?_,c5,?_,⟨by simp,?_,rfl,.inr (.inr (.inl ⟨rfl,hc,by simp,rfl⟩))⟩,fun n _=>iA (by simp) ?_ ?_⟩
    ·rw[zO ts i hi,zO ts (i+1) i1,zO ts (i+1+1) i2,zO ts (i+1+1+1) i5];rfl
    ·intro t ht
     simp only[List.mem_cons,List.not_mem_nil,or_false]at ht;rcases ht with rfl|rfl|rfl
     ·show cA ts i≠qH;rw[hc];decide
     ·show cA ts (i+1)≠qH;rw[c1];decide
     ·show cA ts (i+1+1)≠qH;rw[c2];decide
    ·intro t ht
     simp only[List.mem_cons,List.not_mem_nil,or_false]at ht;rcases ht with rfl|rfl|rfl
     ·exact zGN.get hi
     ·exact zGN.get i1
     ·exact zGN.get i2
    ·show cA ts i≠zW;rw[hc];decide
    ·intro st
     show eU (xC (tA ts (i+1+1)) (xC (tA ts (i+1)) (xC tW st)))=eU (xC (tA ts (i+1+1)) (xC (tA ts (i+1)) (xC (tA ts i) st)));rw[w0]
   ·exact .inl (qO (by simp only[kI,e1,e2,e5]) (Zj (by omega) (by decide) (show jI Jy=[[59]] by decide) c5) f2)
  ·exact .inl (qO (by simp only[kI,e1,e2,rR]) (Zj (by omega) (by decide) (show jI Q5=[yQ] by decide) c2) f1)
 ·exact .inl (qO (by simp only[kI,e1,Bt,rR]) (Zj (by omega) (by decide) (show jI tW=[yQ] by decide) c1) hf)
theorem Cr(u:zI)(t:Nat × Bs)(v:zI)(hu:∀x∈u,zX x.2≠xY)(ht:zX t.2=xY):∀i,mN (u++t::v) i=some (i+u.length):=by
 induction u with
 | nil=>intro i;rw[List.nil_append,mN,if_pos ht];rfl
 | cons x r ih =>
   intro i;rw[List.cons_append,mN,if_neg (hu x (List.mem_cons_self ..)),ih (fun y hy=>hu y (List.mem_cons_of_mem _ hy)),List.length_cons];congr 1;omega
theorem D8{n:Nat}{x:zH}{h:zI}{w:Nat × Bs}{k:Nat}{v:zI}{y:Bs × Int}{N:List yB}{a:Int}(hr:zX ((h++w::v).getD 0 (0,[])).2=zW)(hu:∀y∈h,zX y.2≠xY)(hw:zX w.2=xY)(ht:Gr k v y N a)(hn:v.length<n)
 (hx:∀st,Qx x st=eU (xC y.1 (kP (h++[w]) st))) :
 Vt n (h++w::v)/\∀out,Qx x (out,false)=(out++lM n (h++w::v)++[59,10],false):=by
 have e:pW (h++w::v)=(h.length:Int):=by unfold pW;rw[Cr h w v hu hw 0];simp
 have e1:(h++w::v).take (h.length+1)=h++[w]:=by
  rw[show h++w::v=(h++[w])++v by simp];exact List.take_left' (by simp)
 have e2:(h++w::v).drop (h.length+1)=v:=by
  rw[show h++w::v=(h++[w])++v by simp];exact List.drop_left' (by simp)
 obtain⟨t1,t2⟩:=GR ht n hn;have hp:=ht.pos;refine⟨⟨by simp only[List.length_append,List.length_cons];omega,fun _=>⟨by omega,?_,?_⟩⟩,fun out=>?_⟩
 ·rw[e];simp only[List.length_append,List.length_cons];omega
 ·rw[e,Int.toNat_natCast,e2];exact t2
 ·rw[hx,oH (by simp),<-lG,Kq,lM,if_pos hr,e,Int.toNat_natCast,e1,e2,t1]
theorem Gq{p a b c d e:Bs}{v:zI}{ta tb tc td te:Nat × Bs}(ha:zX ta.2=a)(hb:zX tb.2=b)(hc:zX tc.2=c)(hd:zX td.2=d)(he:zX te.2=e)(h:a≠[42]/\b≠[42]/\c≠[42]/\d≠[42]/\e≠[42]):mD p (ta::tb::tc::td::te::v)=mD te.2 v:=by
 subst ha hb hc hd he;simp only[mD];rw[decide_eq_false h.1,decide_eq_false h.2.1,decide_eq_false h.2.2.1,decide_eq_false h.2.2.2.1,decide_eq_false h.2.2.2.2];simp
theorem D7{a b c d e w:Nat × Bs}{v gv:zI}{S:List xB}{nd:List yB}{root te de:Int}{x:Bs × Int}{k i:Nat}(ha:zX a.2=zW)(hb:zX b.2=yQ)(hc:zX c.2=[58])(hd:zX d.2=yQ)(he:zX e.2=[61])(hw:zX w.2=xY)
 (hwn:∀t∈(a::b::c::d::e::v),zX t.2≠xY) (hv:0<v.length) (zG8:d.2≠[]) (hS:Qt v S) (hSS:VV false S v) (hG:Gr k gv x nd root) (hW:Wt ⟨(i,false),[],0,0⟩ 0 ⟨(i,false),nd,te,de⟩ gv) :
 Zl ⟨3,b.2,0,0,d.2,S,nd,root,te,de,[]⟩ ((a::b::c::d::e::v)++w::gv) (v.length+5):=by
 have hl:(a::b::c::d::e::v).length=v.length+5:=rfl;have e1:((a::b::c::d::e::v)++w::gv).take (v.length+5)=a::b::c::d::e::v:=List.take_left' hl
 have e2:((a::b::c::d::e::v)++w::gv).drop (v.length+5+1)=gv:=by
  rw[show (a::b::c::d::e::v)++w::gv=((a::b::c::d::e::v)++[w])++gv by simp];exact List.drop_left' (by simp)
 obtain⟨y,L,w1,w2,w3,w4,w5,w6⟩:=hW;simp only at w3 w4 w6
 have hy:y=(te,de):=by
  obtain⟨y1,y2⟩:=y;simp only at w2 w3 w4;have h1:y1=te:=by omega
  have h2:y2=de:=by omega
  rw[h1,h2]
 refine⟨?_,by omega,?_,rfl,zG8,?_,?_,?_,?_,?_,?_,?_,by rw[e1];exact hSS,k,x,by rw[e2];exact hG⟩
 ·rw[Cr _ w gv hwn hw 0,hl];simp
 ·have hp:=hG.pos;simp only[List.length_append,List.length_cons];omega
 ·rw[e1]
  simp only[qV,ha,hb,hc,hd,he];rw[if_neg (by decide),if_neg (by decide),if_neg (by decide),if_neg (by decide)];have:=hS.count;omega
 ·rw[e1,Gq ha hb hc hd he (by decide)];exact hS.big _
 ·intro k hk zGM
  have hk2:cA ((a::b::c::d::e::v)++w::gv) k=cA (a::b::c::d::e::v) k:=by
   unfold cA tA;rw[List.getD,List.getD,List.getElem?_append_left (by rw[hl];exact hk)]
  rw[hk2]at zGM
  match k,hk,zGM with
  | 0,_,h=>exact absurd (ha.symm.trans h) (by decide)
  | 1,_,h=>exact absurd (hb.symm.trans h) (by decide)
  | 2,_,h=>exact absurd (hc.symm.trans h) (by decide)
  | 3,_,h=>exact absurd (hd.symm.trans h) (by decide)
  | 4,_,h=>exact absurd (he.symm.trans h) (by decide)
  | k+5,hk,h =>
    obtain⟨h1,h2⟩:=hS.star k (by omega) h;refine⟨by omega,?_⟩;obtain⟨m,rfl⟩:∃m,k=m+1:=⟨k-1,by omega⟩
    have hk3:cA ((a::b::c::d::e::v)++w::gv) (m+5)=cA (a::b::c::d::e::v) (m+5):=by
     unfold cA tA;rw[List.getD,List.getD,List.getElem?_append_left (by rw[hl];omega)]
    show cA _ (m+5)=zV;rw[hk3];exact h2
 ·rw[e1];exact hS.needs
 ·rw[e2,w5 xY [] ⟨by decide,by decide⟩ (by decide),w6];rfl
 ·rw[e2,<-hy];exact w1
 ·intro n hn
  rw[e2];refine(GR hG n ?_).2;simp only[List.length_append,List.length_cons]at hn;omega
theorem D9{ts:zI}{len i:Nat}(zGN:fO ts)(zG5:ts.length<=4000)(hi:i<ts.length)(hc:cA ts i=zW):Zo ts len i (pD (pp ts len) (i+1,false)):=by
 have hf:FA ts len i kX 0=FA ts len (i+1) zW 0:=uT hi hc rfl (by decide) rfl;have w0:=(cP (by decide) hc).2;rcases fG (len:=len) (show i+1<=ts.length from hi) with ⟨c1,i1,e1⟩|⟨c1,e1⟩
 rotate_left
 ·exact .inl (qO (jC (nX (jC (Jw (jC (CG (jC (by rw[e1])))))))) (Zj (by omega) (by decide) (show jI zW=[yQ] by decide) c1) hf)
 have f1:=hf.trans (uT i1 c1 (show zT zW yQ 0=UD from rfl) (by decide) rfl);rcases gX (len:=len) (t:=[58]) (show i+1+1<=ts.length from i1) (by decide) with ⟨c2,i2,e2⟩|⟨c2,e2⟩
 rotate_left
 ·exact .inl (qO (jC (nX (jC (Jw (jC (CG (by rw[e1,e2]))))))) (Zj (by omega) (by decide) (show jI UD=[[58]] by decide) c2) f1)
 have f2:=f1.trans (uT i2 c2 (show zT UD [58] 0=UE from rfl) (by decide) rfl);have w2:=(cP (by decide) c2).2;rcases fG (len:=len) (show i+1+1+1<=ts.length from i2) with ⟨c3,i3,e3⟩|⟨c3,e3⟩
 rotate_left
 ·exact .inl (qO (jC (nX (jC (Jw (jC (by rw[e1,e2,e3])))))) (Zj (by omega) (by decide) (show jI UE=[yQ] by decide) c3) f2)
 have f3:=f2.trans (uT i3 c3 (show zT UE yQ 0=zl from rfl) (by decide) rfl);rcases gX (len:=len) (t:=[61]) (show i+1+1+1+1<=ts.length from i3) (by decide) with ⟨c4,i4,e4⟩|⟨c4,e4⟩
 rotate_left
 ·exact .inl (qO (jC (nX (jC (Jw (by rw[e1,e2,e3,e4]))))) (Zj (by omega) (by decide) (show jI zl=[[61]] by decide) c4) f3)
 have f4:=f3.trans (uT i4 c4 (show zT zl [61] 0=fZ from rfl) (by decide) rfl);have w4:=(cP (by decide) c4).2;have hS:=jx (len:=len) zGN (pp ts len).length (i+1+1+1+1+1) false [] i4 (by rw[eY];omega);simp only[pD,e1,e2,e3,e4];have eS:tG (pp ts len) (i+1+1+1+1+1,false)=dF (pp ts len) (pp ts len).length false (i+1+1+1+1+1,false) []:=rfl;rw[eS];generalize dF (pp ts len) (pp ts len).length false (i+1+1+1+1+1,false) []=r at hS ⊢;obtain⟨S,⟨j,f⟩⟩:=r;rcases hS with ⟨g1,g2⟩|⟨g1,g2,g3,g4,g5,new,v,g6,g7,g8,g9,g10,g11,g12,gT,gS⟩
 ·simp only at g1;subst g1
  exact .inl (qO (jC (nX (jC rfl))) g2 f4)
 simp only[List.nil_append]at g1 g2 g3 g4 g5 g6 g10;subst g1 g6;rcases gX (len:=len) (t:=xY) g3 (by decide) with ⟨c5,i5,e5⟩|⟨c5,e5⟩
 rotate_left
 ·exact .inl (qO (jC (nX e5)) (g5 c5) f4)
 have f5:=f4.trans (g4 c5);have w5:=(cP (by decide) c5).2;simp only[e5];have hG:=FG (len:=len) zGN (show j+1<=ts.length from i5);generalize vU (pp ts len) (j+1,false)=y at hG ⊢;obtain⟨root,⟨⟨m,f⟩,nd,te,de⟩⟩:=y;rcases hG with ⟨k1,k2⟩|⟨k1,k2,k3,k4,k5,k6,k7,k8,gv,x,k9,k10,k11⟩
 ·simp only at k1;subst k1
  exact .inl (qO (jC rfl) k2 f5)
 simp only at k1 k2 k3 k4 k6 k7 k8 k9 k10;subst k1;have f6:=f5.trans k4;rcases gX (len:=len) (t:=[59]) k3 (by decide) with ⟨c7,i7,e7⟩|⟨c7,e7⟩
 rotate_left
 ·exact .inl (qO (by simp only[e7]) (nK k3 (ZD (k8 (by decide)) (k7 (by decide)) (fun _=>rfl) (fun e=>absurd e c7)) (.inr (by decide))) f6)
 have f7:=f6.trans (uT i7 c7 (show zT qB [59] 0=kX from rfl) (by decide) rfl);simp only[e7];have hb:=k9.bound
 have hlv:v.length<=ts.length:=by
  have h1:=congrArg List.length g10;simp only[List.length_append,List.length_drop]at h1;omega
 have hlx:gv.length<=ts.length:=by
  have h1:=congrArg List.length k10;simp only[List.length_append,List.length_drop]at h1;omega
 refine .inr ⟨rfl,(by show i<m+1;omega),i7,f7,⟨.inr (.inr (.inl rfl)),by simp,by simp,by simp,by simp,?_,(by show S.length<=10000;omega),k6,fun _=>⟨g7,hb.1,hb.2⟩⟩,
  (TT ts i::TT ts (i+1)::TT ts (i+1+1)::TT ts (i+1+1+1)::TT ts (i+1+1+1+1)::v)++TT ts j::gv,TT ts m,?_,c7,?_,?_,fun n hn=>D8 ?_ ?_ c5 k9 (by omega) ?_⟩
 ·intro a ha
  have ha':a<S.length:=ha;show 0<=(ZO S a).num/\(ZO S a).num<=9999;unfold ZO;rw[List.getD,List.getElem?_eq_getElem ha'];exact g9 _ (List.getElem_mem ha')
 ·rw[zO ts i hi,zO ts (i+1) i1,zO ts (i+1+1) i2,zO ts (i+1+1+1) i3,zO ts (i+1+1+1+1) i4,g10,zO ts j i5,k10,zO ts m i7]
  simp
 ·intro t ht
  rcases List.mem_append.1 ht with ht|ht
  ·simp only[List.mem_cons]at ht
   rcases ht with rfl|rfl|rfl|rfl|rfl|ht
   ·show cA ts i≠qH;rw[hc];decide
   ·show cA ts (i+1)≠qH;rw[c1];decide
   ·show cA ts (i+1+1)≠qH;rw[c2];decide
   ·show cA ts (i+1+1+1)≠qH;rw[c3];decide
   ·show cA ts (i+1+1+1+1)≠qH;rw[c4];decide
   ·exact(g11 t ht).1
  ·rcases List.mem_cons.1 ht with rfl|ht
   ·show cA ts j≠qH;rw[c5];decide
   ·exact k9.noEnd t ht
 ·have hg0:0<v.length:=by omega
  have hwn:∀t∈(TT ts i::TT ts (i+1)::TT ts (i+1+1)::TT ts (i+1+1+1)::TT ts (i+1+1+1+1)::v),zX t.2≠xY:=by
   intro t ht;simp only[List.mem_cons]at ht;rcases ht with rfl|rfl|rfl|rfl|rfl|ht
   ·show cA ts i≠xY;rw[hc];decide
   ·show cA ts (i+1)≠xY;rw[c1];decide
   ·show cA ts (i+1+1)≠xY;rw[c2];decide
   ·show cA ts (i+1+1+1)≠xY;rw[c3];decide
   ·show cA ts (i+1+1+1+1)≠xY;rw[c4];decide
   ·exact(g11 t ht).2
  refine⟨by simp,?_,rfl,.inr (.inr (.inr ⟨rfl,hc,v.length+5,D7 hc c1 c2 c3 c4 c5 hwn hg0 (zGN.at' i3).1 gT gS k9 k11⟩))⟩
  have hall:(TT ts i::TT ts (i+1)::TT ts (i+1+1)::TT ts (i+1+1+1)::TT ts (i+1+1+1+1)::v)++TT ts j::gv++TT ts m::ts.drop (m+1)=ts.drop i:=by
   rw[zO ts i hi,zO ts (i+1) i1,zO ts (i+1+1) i2,zO ts (i+1+1+1) i3,zO ts (i+1+1+1+1) i4,g10,zO ts j i5,k10,zO ts m i7];simp
  intro t ht;refine zGN t (List.mem_of_mem_drop (i:=i) ?_);rw[<-hall];exact List.mem_append_left _ ht
 ·show cA ts i=zW;exact hc
 ·intro t ht
  simp only[List.mem_cons]at ht;rcases ht with rfl|rfl|rfl|rfl|rfl|ht
  ·show cA ts i≠xY;rw[hc];decide
  ·show cA ts (i+1)≠xY;rw[c1];decide
  ·show cA ts (i+1+1)≠xY;rw[c2];decide
  ·show cA ts (i+1+1+1)≠xY;rw[c3];decide
  ·show cA ts (i+1+1+1+1)≠xY;rw[c4];decide
  ·exact(g11 t ht).2
 ·intro st
  show eU (nL nd nd.length root.toNat (xC xY (ZP S 0 (xC [61] (xC (tA ts (i+1+1+1)) (xC [58] (xC (tA ts (i+1)) (xC zW st))))))))=_;rw[w_gr k9 nd.length _ (by omega),g12,eX];show _=eU (xC x.1 (xC (tA ts j) (kP v (xC (tA ts (i+1+1+1+1)) (xC (tA ts (i+1+1+1)) (xC (tA ts (i+1+1)) (xC (tA ts (i+1)) (xC (tA ts i) st))))))));rw[w0,w2,w4,w5];rfl
theorem KY{ts:zI}{len i:Nat}(zGN:fO ts)(zG5:ts.length<=4000)(hi:i<ts.length):Zo ts len i (uC (pp ts len) (i,false)):=by
 unfold uC;rcases cU (len:=len) (t:=[110,117,109]) (Nat.le_of_lt hi) (by decide) with ⟨c1,_,e1⟩|⟨c1,e1⟩
 ·simp only[e1];exact yq zGN hi c1
 simp only[e1];rcases cU (len:=len) (t:=[102,108,97,103]) (Nat.le_of_lt hi) (by decide) with ⟨c2,_,e2⟩|⟨c2,e2⟩
 ·simp only[e2];exact FN zGN hi c2
 simp only[e2];rcases cU (len:=len) (t:=[114,117,108,101]) (Nat.le_of_lt hi) (by decide) with ⟨c3,_,e3⟩|⟨c3,e3⟩
 ·simp only[e3];exact D9 zGN zG5 hi c3
 simp only[e3];rcases gX (len:=len) (t:=[111,118,101,114]) (Nat.le_of_lt hi) (by decide) with ⟨c4,_,e4⟩|⟨c4,e4⟩
 ·simp only[e4];exact DO zGN hi c4
 simp only[e4];refine .inl (qO (j:=i) (by simp only[kI,Bt,rR]) ?_ rfl);exact nK (Nat.le_of_lt hi) (mS (by decide) (by decide) (by rw[Bk];simp only[List.mem_cons,List.not_mem_nil,or_false];rintro(h|h|h|h);exact c1 h;exact c2 h;exact c4 h;exact c3 h)) (.inl hi)
theorem KX(u:zI)(e:Nat × Bs)(r:zI)(hu:∀t∈u,zX t.2≠qH)(he:zX e.2=qH):∀k a,vY (u++e::r) k a=(a,k+u.length-a)::vY r (k+u.length+1) (k+u.length+1):=by
 induction u with
 | nil=>intro k a;rw[List.nil_append,vY,if_pos he];rfl
 | cons t u ih =>
   intro k a;rw[List.cons_append,vY,if_neg (hu t (List.mem_cons_self ..)),ih (fun x hx=>hu x (List.mem_cons_of_mem _ hx)),List.length_cons,show k+1+u.length=k+(u.length+1) by omega]
theorem CO(P:List PT)(n:Nat)(j:Nat)(acc:List zH):(pS P n (j,true) acc).2=(j,true):=by
 cases n <;> rfl
def yX:List zH->List zI->Prop
 | [],[]=>True
 | x::xs,u::us=>LT x u/\yX xs us
 | _,_=>False
theorem CT{ts:zI}{len i:Nat}(hi:i<=ts.length):(yP (pp ts len) i).k=0 ↔ i=ts.length:=by
 constructor
 ·intro h
  rcases Nat.lt_or_ge i ts.length with h1|h1
  ·rw[nF h1]at h
   have h':vH (tA ts i)=0:=h;rcases aV (tA ts i) with ⟨h2,_⟩|⟨h2,_⟩|⟨h2,_⟩|⟨h2,_⟩ <;> omega
  ·omega
 ·rintro rfl;rw[aU]
def Ud(ts:zI)(len i:Nat)(acc:List zH)(r:List zH × St):Prop :=
 (r.2.2=true/\FA ts len i kX 0=((yP (pp ts len) r.2.1).p:Int)) \/
 (r.2.2=false/\FA ts len i kX 0<0/\∃new,r.1=acc++new/\(∀x∈new,gU x)/\yX new ((vY (ts.drop i) i i).map (oG ts)) /\
  ∀n,ts.length<n->(∀p∈vY (ts.drop i) i i,Vt n (oG ts p))/\∀out,Ju new (out,false)=(YL n ts (vY (ts.drop i) i i) out,false))
theorem Fp{ts:zI}{len:Nat}(zGN:fO ts)(zG5:ts.length<=4000)(n:Nat):∀(i:Nat) (acc:List zH),i<=ts.length->iX (pp ts len) (i,false)<=n->Ud ts len i acc (pS (pp ts len) n (i,false) acc):=by
 induction n with
 | zero=>intro i acc hi h;unfold iX at h;rw[eY]at h;simp only at h;omega
 | succ n ih =>
   intro i acc hi hn;rw[pS];simp only;by_cases hk:(yP (pp ts len) i).k=0
   ·rw[if_pos hk]
    obtain rfl:=(CT hi).1 hk;refine .inr ⟨rfl,?_,[],by simp,by simp,?_,fun n _=>⟨?_,?_⟩⟩
    ·unfold FA;rw[List.drop_length,kR,if_pos rfl];decide
    ·rw[List.drop_length,vY];trivial
    ·intro p hp;rw[List.drop_length,vY]at hp;simp at hp
    ·intro out;rw[List.drop_length,vY];rfl
   ·rw[if_neg hk]
    have hi':i<ts.length:=by
     rcases Nat.lt_or_ge i ts.length with h|h
     ·exact h
     ·exact absurd ((CT (len:=len) hi).2 (by omega)) hk
    have hg:=Q0 (P:=pp ts len) (s:=(i,false)) rfl (by rw[eY];show i<ts.length+1;omega);have hL:=KY (len:=len) zGN zG5 hi';generalize uC (pp ts len) (i,false)=r at hL hg ⊢;obtain⟨x,⟨j,f⟩⟩:=r;rcases hL with ⟨h1,h2⟩|⟨h1,h2,h3,h4,h5,u,e,h6,h7,h8,hLT,h9⟩
    ·simp only at h1;subst h1
     refine .inl ?_;rw[CO];exact⟨rfl,h2⟩
    ·simp only at h1 h2 h3 h4 h5 h6 h9;subst h1
     have hI:=ih j (acc++[x]) h3 (by simp only at hg;omega)
     have hj:i+u.length+1=j:=by
      have h:=congrArg List.length h6;simp only[List.length_append,List.length_drop,List.length_cons]at h;omega
     have hl:vY (ts.drop i) i i=(i,u.length)::vY (ts.drop j) j j:=by
      rw[h6,KX u e _ h8 h7,hj,show i+u.length-i=u.length by omega]
     have hs:oG ts (i,u.length)=u:=by
      unfold oG;rw[h6];exact List.take_left' rfl
     rcases hI with ⟨g1,g2⟩|⟨g1,g2,new,g3,g4,gL,g5⟩
     ·exact .inl ⟨g1,by rw[h4];exact g2⟩
     ·refine .inr ⟨g1,by rw[h4];exact g2,x::new,by rw[g3];simp,?_,?_,fun n hn=>?_⟩
      ·intro y hy
       rcases List.mem_cons.1 hy with rfl|hy
       ·exact h5
       ·exact g4 y hy
      ·rw[hl,List.map_cons,hs];exact⟨hLT,gL⟩
      ·obtain⟨a1,a2⟩:=h9 n hn
       obtain⟨b1,b2⟩:=g5 n hn;rw[hl];refine⟨?_,fun out=>?_⟩
       ·intro p hp
        rcases List.mem_cons.1 hp with rfl|hp
        ·rw[hs];exact a1
        ·exact b1 p hp
       ·rw[Ju,a2,b2,YL,hs]
theorem J4(P:List PT)(n:Nat):∀s acc,(pS P n s acc).1.length<=acc.length+n:=by
 induction n with
 | zero=>intro s acc;exact Nat.le_refl _
 | succ n ih =>
   intro s acc;rw[pS];split
   ·simp only;omega
   ·split
    ·simp only;omega
    ·have:=ih (uC P s).2 (acc++[(uC P s).1])
     simp only[List.length_append,List.length_singleton]at this;omega
theorem Dw(n:Nat)(ts:zI)(ps:List (Nat × Nat)):∀s,(YL n ts ps s).length<=s.length+Yg ts ps:=by
 induction ps with
 | nil=>intro s;simp[YL,Yg]
 | cons p r ih =>
   intro s;rw[YL,Yg];have h1:=ih (s++lM n (oG ts p)++[59,10]);have h2:=JJ n (oG ts p);simp only[List.length_append,List.length_cons,List.length_nil]at h1;omega
structure Ua(l:Bs):Prop where
 place:(xS l).2.2=true->tM l=((yP (lW l) (xS l).2.1).p:Int)
 lines:(xS l).2.2=false->yX (xS l).1 ((qM (zP l 0)).map (oG (zP l 0)))
theorem Zy{n:Nat}{l:Bs}(hl:l.length<=4000)(hn:4000<n):VZ n l/\Ua l:=by
 have ht:(zP l 0).length<=4000:=Nat.le_trans (uU l 0) hl;have eP:lW l=pp (zP l 0) l.length:=rfl;have eF:FA (zP l 0) l.length 0 kX 0=tM l:=rfl;have hR:=Fp (len:=l.length) (Qz l) ht (2*(lW l).length+1) 0 [] (Nat.zero_le _) (by rw[eP];unfold iX;simp only;omega);rw[<-eP]at hR;have eR:pS (lW l) (2*(lW l).length+1) (0,false) []=xS l:=rfl;rw[eR]at hR;unfold Ud at hR;rw[eF,<-eP]at hR
 have hm:(xS l).1.length<=10000:=by
  have:=J4 (lW l) (2*(lW l).length+1) (0,false) [];rw[eR,eP,eY]at this;simp only[List.length_nil]at this;omega
 have hs:(Cx n l).length<=zEN:=by
  have h1:=Dw n (zP l 0) (qM (zP l 0)) [];have h2:=Ge (zP l 0);have h3:=Dv l;unfold Cx zEN;simp only[List.length_nil]at h1;omega
 rcases hR with ⟨h1,h2⟩|⟨h1,h2,new,h3,h4,hA,h5⟩
 ·refine⟨⟨fun _=>by rw[h2];exact Int.natCast_nonneg _,fun h=>?_,fun h=>?_,hm,fun h=>?_,hs,fun h=>?_⟩,fun _=>h2,fun h=>?_⟩
  ·rw[h1]at h;exact absurd h (by decide)
  ·rw[h1]at h;exact absurd h (by decide)
  ·rw[h1]at h;exact absurd h (by decide)
  ·rw[h2]at h;exact absurd h (by omega)
  ·rw[h1]at h;exact absurd h (by decide)
 ·obtain⟨a1,a2⟩:=h5 n (by omega)
  rw[List.nil_append]at h3;refine⟨⟨fun h=>?_,fun _=>h2,fun _=>?_,hm,fun _=>?_,hs,fun _=>a1⟩,fun h=>?_,fun _=>?_⟩
  ·rw[h1]at h;exact absurd h (by decide)
  ·rw[h3];exact h4
  ·rw[h3,a2];rfl
  ·rw[h1]at h;exact absurd h (by decide)
  ·rw[h3];exact hA
end Go.Proofs.YtnbpdffdnphbeaaGreatDoor
