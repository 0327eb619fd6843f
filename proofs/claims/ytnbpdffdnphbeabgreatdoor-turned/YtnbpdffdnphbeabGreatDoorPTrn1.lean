import Derived.Test.YtnbpdffdnphbeabGreatDoorKpLaw2
namespace Go.Proofs.YtnbpdffdnphbeabGreatDoor
variable {M:yB} {G:Nat->GR} {F ls:List zE}
variable{u v:FV}{a s d j i b r:Nat}
theorem Qm{α:Type}{p:α->Bool}{l l':List α}(h:l.Perm l'):l.any p=l'.any p:=by
 rw[ct,ma,ma];constructor
 ·rintro⟨x,hx,hp⟩;exact⟨x,h.mem_iff.1 hx,hp⟩
 ·rintro⟨x,hx,hp⟩;exact⟨x,h.mem_iff.2 hx,hp⟩
theorem rR(h:F.Perm ls)(k:Int)(nm:Bs):vQ F k nm=vQ ls k nm:=Qm h
theorem Zk(h:F.Perm ls)(nm:Bs):jE F nm=jE ls nm:=Qm h
theorem zBZ(h:F.Perm ls)(k:Int):xT k F=xT k ls:=by
 induction h with
 | nil=>rfl
 | cons x _ ih=>rw[xT,xT,ih]
 | swap x y l=>rw[xT,xT,xT,xT];omega
 | trans _ _ h1 h2=>rw[h1,h2]
def zGH(x y:zE):Prop:=¬(x.kind=3/\y.kind=3/\x.name=y.name)/\¬((x.kind=1\/x.kind=2)/\(y.kind=1\/y.kind=2)/\x.name=y.name)
theorem zGH.symm{x y:zE}(h:zGH x y):zGH y x:=⟨fun ⟨a,b,c⟩=>h.1 ⟨b,a,c.symm⟩,fun ⟨a,b,c⟩=>h.2 ⟨b,a,c.symm⟩⟩
theorem XC(h:i<ls.length):lA ls i=ls[i]:=by unfold lA;simp[List.getD,h]
theorem YV(hij:i<j)(hj:j<ls.length){k:Int}{nm:Bs}(h1:(lA ls i).kind=k)(h2:(lA ls i).name=nm):vQ (ls.take j) k nm=true:=by
 have hi:i<ls.length:=by omega
 refine ma.2 ⟨lA ls i,?_,by unfold iP;simp[h1,h2]⟩;rw[XC hi];exact List.mem_take_iff_getElem.2 ⟨i,by omega,rfl⟩
theorem ZE:bE ls i=0 ↔ vQ (ls.take i) 1 (lA ls i).name=false/\vQ (ls.take i) 2 (lA ls i).name=false/\jE ls (lA ls i).name=false:=by
 unfold bE;cases vQ (ls.take i) 1 (lA ls i).name <;> cases vQ (ls.take i) 2 (lA ls i).name <;> cases jE ls (lA ls i).name <;> simp
theorem eJ:pJ ls i=0 ↔ vQ (ls.take i) 3 (lA ls i).name=false/\(lA ls i).sum.any (fun x => !uP ls x)=false/\(lA ls i).nd.any (fun x => !xS ls x)=false:=by
 unfold pJ;cases vQ (ls.take i) 3 (lA ls i).name <;> cases (lA ls i).sum.any (fun x => !uP ls x) <;> cases (lA ls i).nd.any (fun x => !xS ls x) <;> simp
theorem XK(h:jQ ls i=0)(hk:(lA ls i).kind=1\/(lA ls i).kind=2):bE ls i=0:=by
 unfold jQ at h;rcases hk with k|k
 ·rw[tl k]at h
  unfold rE at h;by_cases h0:bE ls i=0
  ·exact h0
  ·rw[tb h0]at h;exact h
 ·rw[tb (by omega),tl k]at h;exact h
theorem QZ(h:jQ ls i=0)(hk:(lA ls i).kind=3):pJ ls i=0:=by
 unfold jQ at h;rw[tb (by omega),tb (by omega),tl hk]at h;exact h
theorem CK(hc:xX ls):ls.Pairwise zGH:=by
 refine List.pairwise_iff_getElem.2 fun i j hi hj hij=>?_;rw[<-XC hi,<-XC hj];refine⟨fun ⟨a,b,c⟩=>?_,fun ⟨a,b,c⟩=>?_⟩
 ·have:=(eJ.1 (QZ (hc.err j hj) b)).1
  rw[YV hij hj a c]at this;cases this
 ·have hz:=ZE.1 (XK (hc.err j hj) b)
  rcases a with a|a
  ·have:=hz.1
   rw[YV hij hj a c]at this;cases this
  ·have:=hz.2.1
   rw[YV hij hj a c]at this;cases this
theorem sD(h:F.Pairwise zGH)(hij:i<j)(hj:j<F.length):zGH (lA F i) (lA F j):=by
 rw[XC hj,XC (show i<F.length by omega)];exact List.pairwise_iff_getElem.1 h i j (by omega) hj hij
theorem Gb(h:ls.Pairwise zGH){x y:zE}(hx:x∈ls)(hy:y∈ls)(k1:x.kind=3)(k2:y.kind=3)(e:x.name=y.name):x=y:=by
 obtain⟨i,hi,rfl⟩:=fK hx;obtain⟨j,hj,rfl⟩:=fK hy;rcases Nat.lt_trichotomy i j with l|l|l
 ·exact absurd ⟨k1,k2,e⟩ (sD h l hj).1
 ·rw[l]
 ·exact absurd ⟨k2,k1,e.symm⟩ (sD h l hi).1
theorem C8{p:zE->Bool}:∀(ls:List zE) (a:Nat),(ls.any p=true->a<=kO p ls a/\kO p ls a<a+ls.length/\p (lA ls (kO p ls a-a))=true)/\(ls.any p=false->kO p ls a=a+ls.length):=by
 intro ls
 induction ls with
 | nil=>intro a;exact⟨fun h=>(by cases h),fun _=>rfl⟩
 | cons x r ih =>
   intro a;rw[kO];cases hp:p x
   ·rw[tb (by simp),cg,hp,lu,p9]
    refine⟨fun h=>?_,fun h=>?_⟩
    ·obtain⟨h1,h2,h3⟩:=(ih (a+1)).1 h
     refine⟨by omega,by omega,?_⟩;rw[show kO p r (a+1)-a=(kO p r (a+1)-(a+1))+1 by omega];exact h3
    ·rw[(ih (a+1)).2 h];omega
   ·rw[tl rfl]
    refine⟨fun _=>⟨j1 _,by rw[p9];omega,?_⟩,fun h=>?_⟩
    ·rw[dz];exact hp
    ·rw[cg,hp]at h;cases h
theorem nV(nm:Bs):(xV ls nm≠ls.length ↔ vQ ls 3 nm=true)/\(vQ ls 3 nm=true->lA ls (xV ls nm)∈ls/\(lA ls (xV ls nm)).kind=3/\(lA ls (xV ls nm)).name=nm):=by
 have h:=C8 (p:=iP 3 nm) ls 0;rw[cr]at h
 have h2:vQ ls 3 nm=true->lA ls (xV ls nm)∈ls/\(lA ls (xV ls nm)).kind=3/\(lA ls (xV ls nm)).name=nm/\xV ls nm≠ls.length:=fun q=>by
  obtain⟨h1,h2,h3⟩:=h.1 q;rw[Nat.sub_zero]at h3;unfold iP at h3;rw[pe,po,po]at h3;exact⟨Ci h2,h3.1,h3.2,fg h2⟩
 refine⟨⟨fun q=>?_,fun q=>(h2 q).2.2.2⟩,fun q=>⟨(h2 q).1,(h2 q).2.1,(h2 q).2.2.1⟩⟩;cases hh:vQ ls 3 nm
 ·exact absurd (h.2 hh) q
 ·rfl
theorem j5(hc:xX ls)(hp:F.Perm ls)(hi:i<F.length):jQ F i=0:=by
 have hR:=CK hc;have hRF:F.Pairwise zGH:=(hp.pairwise_iff zGH.symm).2 hR;have hm:lA F i∈ls:=hp.mem_iff.1 (Ci hi);obtain⟨j,hj,e⟩:=fK hm;have he:=hc.err j hj
 have hinp:(lA F i).kind=1\/(lA F i).kind=2->bE F i=0:=fun hk=>by
  have hz:=ZE.1 (XK he (by rw[e];exact hk));rw[e]at hz;refine ZE.2 ⟨XN fun q hq hql k1 k2=>?_,XN fun q hq hql k1 k2=>?_,by rw[Zk hp];exact hz.2.2⟩
  ·exact(sD hRF hq hi).2 ⟨.inl k1,hk,k2⟩
  ·exact(sD hRF hq hi).2 ⟨.inr k1,hk,k2⟩
 unfold jQ;by_cases k1:(lA F i).kind=1
 ·rw[tl k1]
  unfold rE;rw[hinp (.inl k1),tl rfl];unfold jQ at he;rw[e,tl k1]at he;unfold rE at he;rw[XK (hc.err j hj) (by rw[e];exact .inl k1),tl rfl,e]at he;exact he
 ·rw[tb k1]
  by_cases k2:(lA F i).kind=2
  ·rw[tl k2];exact hinp (.inr k2)
  ·rw[tb k2]
   by_cases k3:(lA F i).kind=3
   ·rw[tl k3]
    have hz:=eJ.1 (QZ he (by rw[e];exact k3));rw[e]at hz;have e1:(fun x => !uP F x)=fun x => !uP ls x:=funext fun x=>by unfold uP Xa;rw[rR hp,Zk hp]
    have e2:(fun x => !xS F x)=fun x => !xS ls x:=funext fun x=>by unfold xS;rw[rR hp,rR hp,rR hp,Zk hp]
    refine eJ.2 ⟨XN fun q hq hql k1 k2=>(sD hRF hq hi).1 ⟨k1,k3,k2⟩,?_,?_⟩
    ·rw[e1];exact hz.2.1
    ·rw[e2];exact hz.2.2
   ·rw[tb k3]
    by_cases k4:(lA F i).kind=4
    ·rw[tl k4]
     unfold jQ at he;rw[e,tb k1,tb k2,tb k3,tl k4]at he;generalize lA F i=x at he
     have hf:∀nm,xV ls nm≠ls.length->xV F nm≠F.length/\lA F (xV F nm)=lA ls (xV ls nm):=fun nm hn=>by
      have a1:=(nV (ls:=ls) nm).1.1 hn;have a2:vQ F 3 nm=true:=by rw[rR hp];exact a1
      obtain⟨b1,b2,b3⟩:=(nV (ls:=ls) nm).2 a1;obtain⟨c1,c2,c3⟩:=(nV (ls:=F) nm).2 a2;exact⟨(nV (ls:=F) nm).1.2 a2,Gb hR (hp.mem_iff.1 c1) b1 c2 b2 (c3.trans b3.symm)⟩
     unfold bK at he ⊢;by_cases h1:xV ls x.name=ls.length\/xV ls x.lower=ls.length
     ·rw[tl h1]at he;cases he
     ·rw[tb h1]at he
      have q1:=hf x.name fun q=>h1 (.inl q);have q2:=hf x.lower fun q=>h1 (.inr q);rw[tb (fun q=>by rcases q with q|q;exact q1.1 q;exact q2.1 q),q1.2,q2.2];exact he
    ·rw[tb k4]
theorem Gt(h:yA M)(hG:∀i,i<M.rules.length->oM (xF M.heads (vE M i).head) (vE M i) (G i))(hp:F.Perm (vC M G))(hi:i<F.length):jL F i=false:=by
 have hm:lA F i∈vC M G:=hp.mem_iff.1 (Ci hi);obtain⟨j,hj,e⟩:=fK hm;have h0:=DD h hG hj
 have hk:(lA F i).kind=1\/(lA F i).kind=2\/(lA F i).kind=3\/(lA F i).kind=4:=by
  rcases Zb hm with ⟨k,hk,q⟩|⟨k,hk,q⟩|⟨p,hp',q⟩
  ·rw[q,dA];split
   ·exact .inl rfl
   ·exact .inr (.inl rfl)
  ·rw[q];exact .inr (.inr (.inl rfl))
  ·rw[q];exact .inr (.inr (.inr rfl))
 have h1:=zC0 hi;have h2:=Fh (G:=G) h _ hk;rw[zBZ hp]at h1;unfold jL at h0 ⊢;rw[e,bh]at h0;rw[tu (by omega),lu];exact h0.2
theorem BG(h:yA M)(hG:∀i,i<M.rules.length->oM (xF M.heads (vE M i).head) (vE M i) (G i))(hp:F.Perm (vC M G)):qG F=(0,0):=by
 have hc:xX (vC M G):=zHD (by rw[Uf h hG]);unfold qG;rw[X3 _ 0 fun i _ hi=>Gt h hG hp (by omega)];show Zi _=_;unfold Zi;rw[J5 _ 0 fun i _ hi=>j5 hc hp (by omega)];show eL _=_;unfold eL;rw[VB h hG _ fun _ q=>hp.mem_iff.1 q,V3 (G:=G) h _ fun _ q=>hp.mem_iff.1 q,tb (by decide),tb (by decide)]
def bW{α:Type}(q:Nat)(l:List α):List α:=l.drop q++l.take q
theorem cL{α:Type}(q:Nat)(l:List α):(bW q l).Perm l:=by
 unfold bW;exact List.perm_append_comm.trans (by rw[List.take_append_drop])
theorem nG{α β:Type}(f:α->β)(q:Nat)(l:List α):bW q (l.map f)=(bW q l).map f:=by unfold bW;rw[bf,List.map_drop,List.map_take]
theorem Xh{α:Type}(p:α->Bool)(q:Nat)(l:List α):(bW q l).filter p=bW ((l.take q).filter p).length (l.filter p):=by
 unfold bW;have e:l.filter p=(l.take q).filter p++(l.drop q).filter p:=by rw[<-cq,List.take_append_drop]
 rw[cq,e,List.drop_left,List.take_left]
theorem tY{α:Type}(q:Nat)(l:List α):(bW q l).length=l.length:=(cL q l).length_eq
theorem Bx{α:Type}(q:Nat)(l:List α)(d:α)(hq:q<=l.length)(hi:i<l.length):(bW q l).getD i d=l.getD ((i+q)%l.length) d:=by
 unfold bW;rw[p8,p8,List.getElem?_append,dl];by_cases h:i<l.length-q
 ·rw[tl h,List.getElem?_drop,Nat.mod_eq_of_lt (by omega),Nat.add_comm]
 ·rw[tb h,du,tl (by omega)]
  congr 2
  rw[show i+q=(i-(l.length-q))+l.length by omega,Nat.add_mod_right,Nat.mod_eq_of_lt (by omega)]
variable {M:yB} {G:Nat->GR} {F:List zE} {t s:Nat}
structure qC(M:yB)(G:Nat->GR)(F:List zE)(t s:Nat):Prop where
 perm:F.Perm (vC M G)
 inp:zV F=bW t ((List.range 5).map fun i=>jM (gW M i))
 rul:dM F=bW s ((List.range M.rules.length).map fun i=>nF (vE M i) i (G i))
 t5:t<=5
 sn:s<=M.rules.length
theorem nP(ls:List zE):zV ls=(ls.filter fun x=>decide (x.kind=1\/x.kind=2)).map jM:=by unfold zV;rw[wX,da]
theorem Zg{α:Type}(p:α->Bool)(q:Nat)(l:List α):((l.take q).filter p).length<=(l.filter p).length:=by
 have e:l.filter p=(l.take q).filter p++(l.drop q).filter p:=by rw[<-cq,List.take_append_drop]
 rw[e,tm];omega
theorem zHZ(M:yB)(G:Nat->GR)(q:Nat):∃t s,qC M G (bW q (vC M G)) t s:=by
 refine⟨(((vC M G).take q).filter fun x=>decide (x.kind=1\/x.kind=2)).length,(((vC M G).take q).filter fun x=>decide (x.kind=3)).length,cL _ _,?_,?_,?_,?_⟩
 ·rw[nP,Xh,<-nG,<-nP,DX]
 ·unfold dM;rw[Xh]
  have:=zB3 M G;unfold dM at this;rw[this]
 ·have:=Zg (fun x:zE=>decide (x.kind=1\/x.kind=2)) q (vC M G)
  have e:=congrArg List.length (DX M G);rw[nP]at e;simp only[pw,List.length_range]at e;omega
 ·have:=Zg (fun x:zE=>decide (x.kind=3)) q (vC M G)
  have e:=zB3 M G;unfold dM at e;rw[e]at this;simpa using this
def qT(n s i:Nat):Nat:=(i+s)%n
def iN(n s r:Nat):Nat:=(r+(n-s))%n
theorem tU{n:Nat}(hi:i<n):qT n s i<n:=Nat.mod_lt _ (by omega)
theorem fO{n:Nat}(hr:r<n):iN n s r<n:=Nat.mod_lt _ (by omega)
theorem fW{n:Nat}(h:a<2*n):a%n=if a<n then a else a-n:=by
 split
 ·exact Nat.mod_eq_of_lt ‹_›
 ·rw[Nat.mod_eq_sub_mod (by omega),Nat.mod_eq_of_lt (by omega)]
theorem cF{n:Nat}(hs:s<=n)(hr:r<n):qT n s (iN n s r)=r:=by
 unfold qT iN;rw[fW (a:=r+(n-s)) (by omega)];split
 ·rw[fW (by omega)];split <;> omega
 ·rw[fW (by omega)];split <;> omega
theorem oG{n:Nat}(hs:s<=n)(hi:i<n):iN n s (qT n s i)=i:=by
 unfold qT iN;rw[fW (a:=i+s) (by omega)];split
 ·rw[fW (by omega)];split <;> omega
 ·rw[fW (by omega)];split <;> omega
theorem fR{n:Nat}(hs:s<=n):bW s (List.range n)=(List.range n).map (qT n s):=by
 refine List.ext_getElem (by rw[tY,pw]) fun i h1 h2=>?_;have hi:i<n:=by rw[tY]at h1;simpa using h1
 have:=Bx s (List.range n) 0 (by simpa using hs) (i:=i) (by simpa using hi);rw[List.length_range]at this;have hm:(i+s)%n<n:=Nat.mod_lt _ (by omega);simp only[p8,pb h1,Option.getD_some]at this;rw[this];simp[qT,hm]
theorem qC.n(hT:qC M G F t s):(dM F).length=M.rules.length:=by rw[hT.rul,tY];simp
theorem qC.rule(hT:qC M G F t s)(hr:r<M.rules.length):(dM F).getD r Yw=nF (vE M (qT M.rules.length s r)) (qT M.rules.length s r) (G (qT M.rules.length s r)):=by
 rw[hT.rul,nG,fR hT.sn];simp[List.getD,hr]
theorem qC.labs(hT:qC M G F t s):yW F=(List.range M.rules.length).map fun i=>xM 114 (qT M.rules.length s i):=by
 rw[XA,hT.rul,nG,fR hT.sn,List.map_map,List.map_map];rfl
theorem Xt{l:List Bs}(h:l.Nodup)(hi:i<l.length):zH l (l.getD i [])=(i:Int):=by
 obtain⟨a,ha,e1,e2⟩:=J3 (l:=l) (nm:=l.getD i []) (by simp[List.getD,hi]);rw[e1];rw[p8,p8,pb hi,pb ha]at e2;have:=(List.getElem_inj h).1 e2;omega
theorem qC.lab_at(h:yA M)(hT:qC M G F t s)(hr:r<M.rules.length):zH (yW F) (xM 114 r)=(iN M.rules.length s r:Int):=by
 have h8:=h.few;have hl:=hT.labs;have hp:=fO (s:=s) hr
 have hnd:(yW F).Nodup:=by
  rw[hl];refine List.pairwise_map.2 (List.Pairwise.imp_of_mem (fun {a b} ha hb zLO e=>?_) List.nodup_range);have ha:=pm.1 ha;have hb:=pm.1 hb;have h1:=tU (s:=s) ha;have h2:=tU (s:=s) hb;have:=Xi _ (by omega) _ (by omega) e;exact zLO (by rw[<-oG hT.sn ha,<-oG hT.sn hb,this])
 have:=Xt hnd (i:=iN M.rules.length s r) (by rw[hl];simpa using hp)
 have e:(yW F).getD (iN M.rules.length s r) []=xM 114 r:=by
  rw[hl];simp[List.getD,hp,cF hT.sn hr]
 rw[e]at this;exact this
theorem qC.heads(h:yA M)(hT:qC M G F t s)(nm:Bs):nm∈zJ F ↔ ∃d∈M.heads,nm=xM 99 d:=by
 rw[sY,Zk hT.perm,<-sY,Jx h,p7];constructor
 ·rintro⟨d,hd,e⟩;exact⟨d,hd,e.symm⟩
 ·rintro⟨d,hd,e⟩;exact⟨d,hd,e.symm⟩
theorem qC.hlen(h:yA M)(hT:qC M G F t s):(zJ F).length=M.heads.length:=by
 have e:=Jx h G
 have h1:=List.Nodup.length_le_of_subset (nT F) (l₂:=zJ (vC M G)) fun x hx=>by
  rw[e];obtain⟨d,hd,rfl⟩:=(hT.heads h x).1 hx;exact p7.2 ⟨d,hd,rfl⟩
 have h2:=List.Nodup.length_le_of_subset (nT (vC M G)) (l₂:=zJ F) fun x hx=>by
  rw[e]at hx;obtain⟨d,hd,rfl⟩:=p7.1 hx;exact(hT.heads h _).2 ⟨d,hd,rfl⟩
 rw[e,pw]at h1 h2;omega
def YG(F:List zE)(d:Nat):Nat:=(zH (zJ F) (xM 99 d)).toNat
theorem qC.place(h:yA M)(hT:qC M G F t s)(hd:d∈M.heads):zH (zJ F) (xM 99 d)=(YG F d:Int)/\YG F d<M.heads.length/\(zJ F).getD (YG F d) []=xM 99 d:=by
 obtain⟨a,ha,e1,e2⟩:=J3 (l:=zJ F) ((hT.heads h _).2 ⟨d,hd,rfl⟩);rw[hT.hlen h]at ha;unfold YG;rw[e1,Int.toNat_natCast];exact⟨rfl,ha,e2⟩
theorem qC.place_inj(h:yA M)(hT:qC M G F t s){d':Nat}(hd:d∈M.heads)(hd':d'∈M.heads)(e:YG F d=YG F d'):d=d':=by
 have h1:=(hT.place h hd).2.2;have h2:=(hT.place h hd').2.2;rw[e,h2]at h1;exact(CH _ (gJ h hd') _ (gJ h hd) h1).symm
theorem qC.at(h:yA M)(hT:qC M G F t s){c:Nat}(hc:c<M.heads.length):∃d∈M.heads,YG F d=c/\(zJ F).getD c []=xM 99 d:=by
 have hl:=hT.hlen h;obtain⟨d,hd,e⟩:=(hT.heads h ((zJ F).getD c [])).1 (by simp[List.getD,show c<(zJ F).length by omega]);refine⟨d,hd,?_,e⟩;have:=Xt (nT F) (i:=c) (by omega);rw[e]at this;unfold YG;rw[this,Int.toNat_natCast]
theorem qC.arw(h:yA M)(hT:qC M G F t s)(ha:a<M.rules.length)(hb:b<M.rules.length):Zn (uE (yW F) F gZ) a b ↔ Zn (dO M) (qT M.rules.length s a) (qT M.rules.length s b):=by
 have h8:=h.few;have la:=tU (s:=s) ha;have lb:=tU (s:=s) hb;unfold Zn;rw[wG _ F (by omega) (by omega) gZ xG,DW,lu,Ka M (by omega) (by omega)];constructor
 ·rintro⟨h1,h2,h3⟩
  refine⟨by omega,by omega,?_⟩;obtain⟨x,hx,hp⟩:=ma.1 h3;unfold zD2 at hp;simp only[pe,po]at hp;rcases Zb (hT.perm.mem_iff.1 hx) with ⟨k,hk,rfl⟩|⟨j,hj,rfl⟩|⟨p,hp',rfl⟩
  ·exact absurd hp.1 (jX M k).2
  ·exact absurd hp.1 (show ¬(3:Int)=4 by decide)
  ·obtain⟨p1,p2,p3⟩:=JZ h hp'
   obtain⟨-,ea,eb⟩:=hp;have ea:zH (yW F) (xM 114 p.1)=(a:Int):=ea;have eb:zH (yW F) (xM 114 p.2)=(b:Int):=eb;rw[hT.lab_at h (by omega)]at ea;rw[hT.lab_at h p2]at eb;have ea':iN M.rules.length s p.1=a:=by omega
   have eb':iN M.rules.length s p.2=b:=by omega
   rw[<-ea',<-eb',cF hT.sn (by omega),cF hT.sn p2];exact p3
 ·rintro⟨h1,h2,h3⟩
  refine⟨by omega,by omega,ma.2 ⟨cQ (qT M.rules.length s a,qT M.rules.length s b),hT.perm.mem_iff.2 ?_,?_⟩⟩
  ·unfold vC
   exact List.mem_append_right _ (p7.2 ⟨_,zEG h h3,rfl⟩)
  ·unfold zD2 cQ
   simp only;rw[hT.lab_at h la,hT.lab_at h lb,oG hT.sn ha,oG hT.sn hb];simp
theorem qC.low(h:yA M)(hT:qC M G F t s)(hab:Zn (uE (yW F) F gZ) a b):a<M.rules.length/\b<M.rules.length:=by
 have h8:=h.few;obtain⟨h1,h2,h3⟩:=hab;rw[wG _ F h1 h2 gZ xG,DW,lu]at h3;obtain⟨x,hx,hp⟩:=ma.1 h3;unfold zD2 at hp;simp only[pe,po]at hp;have hl:(yW F).length=M.rules.length:=by rw[hT.labs];simp
 have e1:=(kX (yW F) x.name).2;have e2:=(kX (yW F) x.lower).2;omega
theorem zIO(h:yA M)(hab:Zn (dO M) a b):a<M.rules.length/\b<M.rules.length:=by
 obtain⟨h1,h2,h3⟩:=hab;rw[Ka M h1 h2]at h3;have:=h.over a b h3;omega
theorem qC.abv(h:yA M)(hT:qC M G F t s)(ha:a<M.rules.length)(hb:b<M.rules.length):gA (zW (uE (yW F) F gZ)) a b=gA (zW (dO M)) (qT M.rules.length s a) (qT M.rules.length s b):=by
 have h8:=h.few;have hl:(uE (yW F) F gZ).length=64:=by rw[pX];exact xG
 have la:=tU (s:=s) ha;have lb:=tU (s:=s) hb
 have key:Zn (zW (uE (yW F) F gZ)) a b ↔ Zn (zW (dO M)) (qT M.rules.length s a) (qT M.rules.length s b):=by
  rw[lI hl,lI (V2 M)];constructor
  ·intro q
   exact q (fun x y=>TC (Zn (dO M)) (qT M.rules.length s x) (qT M.rules.length s y)) (fun x y hxy=>by
    obtain⟨l1,l2⟩:=hT.low h hxy;exact TC.one ((hT.arw h l1 l2).1 hxy)) fun x y z h1 h2=>h1.trans h2
  ·intro q
   have:=q (fun c d=>c<M.rules.length/\d<M.rules.length/\TC (Zn (uE (yW F) F gZ)) (iN M.rules.length s c) (iN M.rules.length s d)) (fun c d hcd=>by
    obtain⟨l1,l2⟩:=zIO h hcd;refine⟨l1,l2,TC.one ((hT.arw h (fO l1) (fO l2)).2 ?_)⟩;rw[cF hT.sn l1,cF hT.sn l2];exact hcd) fun x y z h1 h2=>⟨h1.1,h2.2.1,h1.2.2.trans h2.2.2⟩
   have h3:=this.2.2;rw[oG hT.sn ha,oG hT.sn hb]at h3;exact h3
 unfold Zn at key;rw[ct];constructor
 ·intro q;exact(key.1 ⟨by omega,by omega,q⟩).2.2
 ·intro q;exact(key.2 ⟨by omega,by omega,q⟩).2.2
theorem qC.ins(hT:qC M G F t s):xR F=bW t zAF:=by
 unfold xR;rw[hT.inp,<-nG,List.map_map];unfold zAF
 rw[show List.map (zO.name ∘ fun i=>jM (gW M i)) (List.range 5)=(List.range 5).map yD from List.map_congr_left fun i _=>by
  show (jM (gW M i)).name=_;rw[XI,rP]]
theorem Dy:∀t,t<6->∀i,i<5->zH (bW t zAF) (yD i)=(iN 5 t i:Int):=by decide
theorem zIJ:∀t,t<6->∀d,d<4->zH (bW t zAF) (xM 99 d) = -1:=by decide
theorem qC.in_at(hT:qC M G F t s)(hi:i<5):zH (xR F) (yD i)=(iN 5 t i:Int):=by rw[hT.ins];exact Dy t (by have:=hT.t5;omega) i hi
theorem qC.in_no(hT:qC M G F t s)(hd:d<4):zH (xR F) (xM 99 d)<0:=by rw[hT.ins,zIJ t (by have:=hT.t5;omega) d hd];decide
theorem qC.il(hT:qC M G F t s):(zV F).length=5:=by rw[hT.inp,tY];simp
theorem qC.inpA(hT:qC M G F t s)(hj:j<5):kR (zV F) j=jM (gW M (qT 5 t j)):=by
 unfold kR;rw[hT.inp,nG,fR hT.t5];simp[List.getD,hj]
structure Fx(M:yB)(u:FV)(sd ad vd:Nat->Int):Prop where
 kvd:∀r,r<M.rules.length->vd r=uc M u r
 kst:∀d∈M.heads,sd d=fZ (oQ M u d)
 kav:∀d∈M.heads,ad d=oP (fun r=>Ba u (vE M r)) (oQ M u d)
 has:∀d∈M.heads,u.has d=decide (sd d=1)
 val:∀d∈M.heads,u.val d=ad d
theorem CI(h:yA M){k:Nat}(hk:k<M.rules.length)(hr:r<M.rules.length)(hg:gA (zW (dO M)) k r=true):(vE M k).head=(vE M r).head:=by
 have h8:=h.few;have q:=(lI (V2 M) k r).1 ⟨by omega,by omega,hg⟩
 have:=q (fun x y=>(M.rules.map vI.head).getD x 0=(M.rules.map vI.head).getD y 0) (fun x y ⟨h1,h2,h3⟩=>by
  rw[Ka M h1 h2]at h3;exact(h.over x y h3).2.2) fun x y z h1 h2=>h1.trans h2
 rw[Za hk,Za hr]at this;exact this
theorem K2(h:yA M)(hr:r<M.rules.length)(hi:∀i,u.inn i=v.inn i)(hh:∀d∈M.heads,d<(vE M r).head->u.has d=v.has d):oA u (vE M r)=oA v (vE M r):=by
 have hR:=h.rules _ (pW hr);have hi':u.inn=v.inn:=funext hi
 have htst:∀t∈(vE M r).tests,iQ u t=iQ v t:=fun t ht=>by
  unfold iQ Ff;rcases hR.tests.2.2 t ht with h1|h1|⟨h1,d,hd,h2⟩|⟨h1,_⟩
  ·rw[tl h1,tl h1]
  ·have k0:¬t.kind=0:=by omega
   simp only[hi',tb k0,tl h1.1]
  ·have k0:¬t.kind=0:=by omega
   have k1:¬t.kind=1:=by omega
   simp only[tb k0,tb k1,tl h1,h2,Int.toNat_natCast];rw[hh d (cT hd).1 (cT hd).2]
  ·have k0:¬t.kind=0:=by omega
   have k1:¬t.kind=1:=by omega
   have k2:¬t.kind=2:=by omega
   simp only[hi',tb k0,tb k1,tb k2]
 have hgo:∀(l:List yC) (a b:Bool),(∀t∈l,iQ u t=iQ v t)->zj u a b l=zj v a b l:=by
  intro l
  induction l with
  | nil=>intro a b _;rfl
  | cons t l ih =>
    intro a b ht;rw[zj,zj,ht t (by simp),ih _ _ fun q hq=>ht q (by simp[hq]),ih _ _ fun q hq=>ht q (by simp[hq])]
 have hgrd:zB1 u (vE M r).whole (vE M r).tests=zB1 v (vE M r).whole (vE M r).tests:=by
  cases htl:(vE M r).tests with
  | nil=>rfl
  | cons t l =>
    rw[htl]at htst;show (zj u false (iQ u t) l != _)=(zj v false (iQ v t) l != _);rw[htst t (by simp),hgo _ _ _ fun q hq=>htst q (by simp[hq])]
 have hneed:Jh u (vE M r).parts=Jh v (vE M r).parts:=by
  unfold Jh;rw[ct,List.all_eq_true,List.all_eq_true]
  have key:∀p∈(vE M r).parts,(decide (p.head<0) || u.has p.head.toNat)=(decide (p.head<0) || v.has p.head.toNat):=fun p hp=>by
   rcases hR.parts.2.2 p hp with h1|h1|h1|⟨_,_,d,hd,h2⟩
   ·rw[h1.2.2.2];rfl
   ·rw[h1.2.2];rfl
   ·rw[h1.2.2.2];rfl
   ·rw[h2,Int.toNat_natCast,hh d (cT hd).1 (cT hd).2]
  exact⟨fun q p hp=>by rw[<-key p hp];exact q p hp,fun q p hp=>by rw[key p hp];exact q p hp⟩
 unfold oA;rw[hneed,hgrd]
theorem zDQ(h:yA M)(hr:r<M.rules.length)(hi:∀i,u.inn i=v.inn i)(hh:∀d∈M.heads,d<(vE M r).head->u.val d=v.val d):Ba u (vE M r)=Ba v (vE M r):=by
 have hR:=h.rules _ (pW hr)
 have hp:∀p∈(vE M r).parts,fU u p=fU v p:=fun p hp=>by
  unfold fU;rcases hR.parts.2.2 p hp with h1|h1|h1|⟨_,h1,d,hd,h2⟩
  ·rw[h1.2.2.1,h1.2.2.2,tb (by decide),tb (by decide),tb (by decide),tb (by decide)]
  ·rw[tl h1.2.1.1,tl h1.2.1.1,hi]
  ·rw[tl h1.2.2.1.1,tl h1.2.2.1.1,hi]
  ·have k1:¬ 0<=p.num:=by omega
   have k2:0<=p.head:=by omega
   simp only[tb k1,tl k2];rw[h2,Int.toNat_natCast,hh d (cT hd).1 (cT hd).2]
 unfold Ba
 have key:∀(l:List yX) (n:Int),(∀p∈l,fU u p=fU v p)->Va u l n=Va v l n:=by
  intro l
  induction l with
  | nil=>intro n _;rfl
  | cons p l ih=>intro n hl;rw[Va,Va,hl p (by simp),ih _ fun q hq=>hl q (by simp[hq])]
 exact key _ _ hp
theorem FP(h:yA M)(hi:∀i,u.inn i=v.inn i)(hh:∀d'∈M.heads,d'<d->u.has d'=v.has d'):oQ M u d=oQ M v d:=by
 unfold oQ;refine List.filter_congr fun r hr=>?_;have hr:=pm.1 hr;by_cases hd:(vE M r).head=d
 ·have e1:=K2 h hr hi fun d' h1 h2=>hh d' h1 (by omega)
  have e2:sC M u r=sC M v r:=by
   unfold sC;refine iH _ fun k hk=>?_;have hk:=pm.1 hk;cases hg:gA (zW (dO M)) k r
   ·rw[Bool.and_false,Bool.and_false]
   ·rw[K2 h hk hi fun d' h1 h2=>hh d' h1 (by rw[CI h hk hr hg]at h2;omega)]
  rw[e1,e2]
 ·rw[tu hd,bw,bw]
theorem zAV(h:yA M){sd ad vd sd' ad' vd':Nat->Int}(h1:Fx M u sd ad vd)(h2:Fx M v sd' ad' vd')(hi:∀i,u.inn i=v.inn i):(∀d∈M.heads,sd d=sd' d/\ad d=ad' d)/\∀r,r<M.rules.length->vd r=vd' r:=by
 have key:∀n d,d<n->d∈M.heads->sd d=sd' d/\ad d=ad' d:=by
  intro n
  induction n with
  | zero=>intro d hd;omega
  | succ n ih =>
    intro d hd hm
    have hlow:∀d'∈M.heads,d'<d->u.has d'=v.has d'/\u.val d'=v.val d':=fun d' hm' hd'=>by
     obtain⟨e1,e2⟩:=ih d' (by omega) hm';rw[h1.has d' hm',h2.has d' hm',h1.val d' hm',h2.val d' hm',e1,e2];exact⟨rfl,rfl⟩
    have es:=FP h (d:=d) hi fun d' a b=>(hlow d' a b).1;refine⟨by rw[h1.kst d hm,h2.kst d hm,es],?_⟩;rw[h1.kav d hm,h2.kav d hm,es];refine nC fun r hr=>?_;unfold oQ at hr;obtain⟨hr1,hr2⟩:=mh.1 hr;have hr1:=pm.1 hr1;rw[pe,po]at hr2;exact zDQ h hr1 hi fun d' a b=>(hlow d' a (by omega)).2
 have zM6:∀d∈M.heads,sd d=sd' d/\ad d=ad' d:=fun d hd=>key (d+1) d (by omega) hd;have hhas:∀d∈M.heads,u.has d=v.has d:=fun d hd=>by rw[h1.has d hd,h2.has d hd,(zM6 d hd).1]
 refine⟨zM6,fun r hr=>?_⟩;rw[h1.kvd r hr,h2.kvd r hr];have e:∀k,k<M.rules.length->oA u (vE M k)=oA v (vE M k):=fun k hk=>K2 h hk hi fun d a _=>hhas d a
 have e2:sC M u r=sC M v r:=by
  unfold sC;exact iH _ fun k hk=>by rw[e k (pm.1 hk)]
 unfold uc;rw[e r hr,e2]
variable {M:yB} {G:Nat->GR} {F:List zE} {t s:Nat}
theorem GM{l l':List Nat}(h:l.length=l'.length):fZ l=fZ l':=by
 match l,l',h with
 | [],[],_=>rfl
 | [_],[_],_=>rfl
 | _::_::_,_::_::_,_=>rfl
theorem FB{g:Nat->Int}{l l':List Nat}(h:l.Perm l'):oP g l=oP g l':=by
 have hl:=h.length_eq
 match l,l',hl with
 | [],[],_=>rfl
 | [a],[b],_ =>
   have:=h.mem_iff.1 (pu.2 rfl:a∈[a]);rw[pu.1 this]
 | _::_::_,_::_::_,_=>rfl
theorem ug{f g:Nat->Int}{l:List Nat}{p:Nat->Nat}(h:∀r∈l,f r=g (p r)):oP f l=oP g (l.map p):=by
 match l,h with
 | [],_=>rfl
 | [r],h=>exact h r (by simp)
 | _::_::_,_=>rfl
theorem zJZ{n:Nat}(hs:s<=n)(g:Nat->Bool):((List.range n).any fun k=>g (qT n s k))=(List.range n).any g:=by
 have h:=Qm (p:=g) (cL s (List.range n));rw[fR hs,List.any_map]at h;exact h
theorem zt{n:Nat}(hs:s<=n)(q:Nat->Bool):(((List.range n).filter fun r=>q (qT n s r)).map (qT n s)).Perm ((List.range n).filter q):=by
 have h:=(cL s (List.range n)).filter q;rw[fR hs,List.filter_map]at h;exact h
def oF(M:yB)(F:List zE)(inn:Nat->Int)(st av:Nat->Int):FV:=⟨inn,fun d=>decide (d∈M.heads)&&decide (st (YG F d)=1),fun d=>if d∈M.heads then av (YG F d) else 0⟩
theorem zJC(h:yA M)(hG:∀i,i<M.rules.length->oM (xF M.heads (vE M i).head) (vE M i) (G i))(hT:qC M G F t s)(hc:xX F){L:List Int}{inn:Nat->Int}(hLi:∀k,k<5->qK L (zH (xR F) (yD k))=inn k) :
 Fx M (oF M F inn (xN (vS F L hc) M.heads.length M.heads.length 0 h0).st (xN (vS F L hc) M.heads.length M.heads.length 0 h0).av) (fun d=>(xN (vS F L hc) M.heads.length M.heads.length 0 h0).st (YG F d)) (fun d=>(xN (vS F L hc) M.heads.length M.heads.length 0 h0).av (YG F d)) (fun r=>(xN (vS F L hc) M.heads.length M.heads.length 0 h0).vd (iN M.rules.length s r)):=by
 have eH:=hT.hlen h;have hn:∀r c,r<(vS F L hc).n->(vS F L hc).nm r c->c<M.heads.length:=fun r c hr hm=>by rw[<-eH];exact(BS hc hr hm).1
 have hl:∀c,c<M.heads.length->(vS F L hc).lev c<M.heads.length:=fun c hcc=>by have:=zA8 hc (a:=c) (by omega);rw[eH]at this;exact this
 have hh:∀r,r<(vS F L hc).n->(vS F L hc).head r<M.heads.length:=fun r hr=>by rw[<-eH];exact(aC hr).2
 obtain⟨f1,f2⟩:=zAW (vS F L hc) M.heads.length hn hl hh;have hN:(vS F L hc).n=M.rules.length:=hT.n;have hsn:=hT.sn
 have hhd:∀r,r<M.rules.length->(vS F L hc).head r=YG F (vE M (qT M.rules.length s r)).head:=fun r hr=>by
  show Ym F r=_;unfold Ym YG;rw[hT.rule hr];rfl
 have hdc:∀r d,r<M.rules.length->d∈M.heads->(decide ((vS F L hc).head r=YG F d)=decide ((vE M (qT M.rules.length s r)).head=d)):=fun r d hr hd=>decide_eq_decide.2 (by
  rw[hhd r hr];constructor
  ·intro e;exact hT.place_inj h (fQ h (tU hr)) hd e
  ·intro e;rw[e])
 have habv:∀a b,a<M.rules.length->b<M.rules.length->(vS F L hc).abv a b=gA (zW (dO M)) (qT M.rules.length s a) (qT M.rules.length s b):=fun a b ha hb=>by rw[JG,hT.abv h ha hb]
 have zLT:∀k,k<3->0<=zH (xR F) (yD k):=fun k hk=>by rw[hT.in_at (by omega)];omega
 have hco:∀d,d<4->zH (xR F) (xM 99 d)<0:=fun d hd=>hT.in_no hd;generalize xN (vS F L hc) M.heads.length M.heads.length 0 h0=z at *
 have happ:∀r,r<M.rules.length->(vS F L hc).app r (fun c=>decide (z.st c=1))=oA (oF M F inn z.st z.av) (vE M (qT M.rules.length s r)):=fun r hr=>by
  show kB (rF F r) ⟨L,(List.range (zJ F).length).map _,[]⟩=_;unfold rF;rw[hT.rule hr,eH];refine U8 h (tU hr) (hG _ (tU hr)) zLT hco ⟨fun i hi=>hLi i hi,fun d hd=>?_⟩;show kY ((List.range M.heads.length).map fun c=>decide (z.st c=1)) (zH (zJ F) (xM 99 d))=_;obtain⟨e1,e2,-⟩:=hT.place h hd;rw[YD];unfold oF;simp only;rw[e1,tr (by omega),tr (by omega),tr hd,Int.toNat_natCast];simp
 have hsum:∀r,r<M.rules.length->(vS F L hc).sum r z.av=Ba (oF M F inn z.st z.av) (vE M (qT M.rules.length s r)):=fun r hr=>by
  show iU ⟨L,[],(List.range (zJ F).length).map z.av⟩ (rF F r).sum=_;unfold rF;rw[hT.rule hr,eH];refine zKL (h.rules _ (pW (tU hr))) zLT hco ⟨fun i hi=>hLi i (by omega),fun d hd=>?_⟩;show qK ((List.range M.heads.length).map z.av) (zH (zJ F) (xM 99 d))=_;obtain⟨e1,e2,-⟩:=hT.place h hd;rw[rC];unfold oF;simp only;rw[e1,tl ⟨by omega,by omega⟩,tl hd,Int.toNat_natCast]
 have hbeat:∀r,r<M.rules.length->kP (vS F L hc) (fun k=>(vS F L hc).app k fun c=>decide (z.st c=1)) r=sC M (oF M F inn z.st z.av) (qT M.rules.length s r):=fun r hr=>by
  unfold kP sC;rw[hN];refine Eq.trans ?_ (zJZ hsn fun k=>oA (oF M F inn z.st z.av) (vE M k)&&gA (zW (dO M)) k (qT M.rules.length s r));exact iH _ fun k hk=>by show ((vS F L hc).app k (fun c=>decide (z.st c=1))&&_)=_;rw[happ k (pm.1 hk),habv k r (pm.1 hk) hr]
 have hstand:∀d,d∈M.heads->((xL (vS F L hc) (fun k=>(vS F L hc).app k fun c=>decide (z.st c=1)) (YG F d)).map (qT M.rules.length s)).Perm (oQ M (oF M F inn z.st z.av) d):=fun d hd=>by
  unfold xL oQ;rw[hN];have:=zt hsn (fun r=>decide ((vE M r).head=d)&&(oA (oF M F inn z.st z.av) (vE M r) && !sC M (oF M F inn z.st z.av) r));refine List.Perm.trans (List.Perm.of_eq ?_) this;congr 1
  refine List.filter_congr fun r hr=>?_;have hr2:=pm.1 hr;show (decide ((vS F L hc).head r=YG F d)&&((vS F L hc).app r (fun c=>decide (z.st c=1)) && !_))=_;rw[hdc r d hr2 hd,happ r hr2,hbeat r hr2]
 refine⟨fun r hr=>?_,fun d hd=>?_,fun d hd=>?_,fun d hd=>?_,fun d hd=>?_⟩
 ·have hp:=fO (s:=s) hr
  show z.vd (iN M.rules.length s r)=_;rw[f1 _ (by rw[hN];exact hp)];unfold Yb uc;show (if (vS F L hc).app _ (fun c=>decide (z.st c=1))=true then _ else _)=_;rw[happ _ hp,hbeat _ hp,cF hsn hr]
 ·show z.st (YG F d)=_
  rw[(f2 _ (hT.place h hd).2.1).1];unfold wR;exact GM (by rw[<-(hstand d hd).length_eq,pw])
 ·show z.av (YG F d)=_
  rw[(f2 _ (hT.place h hd).2.1).2,<-FB (hstand d hd)];refine ug fun r hr=>?_;unfold xL at hr;rw[hN]at hr;exact hsum r (pm.1 (mh.1 hr).1)
 ·unfold oF
  simp only;rw[tr hd,my]
 ·unfold oF
  simp only;rw[tl hd]
theorem jG.join{A B:List (zE->Prop)}:∀ {xa xb:List zE},jG A xa->jG B xb->jG (A++B) (xa++xb):=by
 induction A with
 | nil=>intro xa xb h1 h2;cases xa with
   | nil=>exact h2
   | cons x r=>exact absurd h1 id
 | cons Q r ih=>intro xa xb h1 h2;cases xa with
   | nil=>exact absurd h1 id
   | cons x xs=>exact⟨h1.1,ih h1.2 h2⟩
theorem FC(h:yA M)(q:Nat){l:Bs}(ht:tw l=(bW q (yJ M false)).flatten):∃(G:Nat->GR) (q':Nat),(∀i,i<M.rules.length->oM (xF M.heads (vE M i).head) (vE M i) (G i))/\(kS l).1=bW q' (vC M G)/\(kS l).2.2=false:=by
 have hn:=zGT l;have hk:=uq l;have hA:=Dm l;have eK:(bW q (XS M false)).map Prod.fst=bW q (yJ M false):=by rw[<-nG,XR]
 have zLW:∀y∈bW q (XS M false),zHO (lY l) y.1 y.2:=fun y hy=>DY h false y ((cL _ _).mem_iff.1 hy)
 have hf:(bW q (XS M false)).length<=(bW q (yJ M false)).flatten.length:=by
  have h1:=zB5 h false;have h2:(bW q (yJ M false)).flatten.length=(yJ M false).flatten.length:=(cL _ _).flatten.length_eq;rw[tY,h2];exact h1
 rw[ht,<-eK]at hn hk hA;rw[<-eK]at hf;obtain⟨xs,hxs,e⟩:=VJ (lY l) (bW q (XS M false)) (2*(lY l).length+1) 0 [] zLW hA (by rw[cr];exact hk) (by omega) (by omega);rw[<-nG]at hxs;unfold bW at hxs;obtain⟨xa,xb,e0,ha,hb⟩:=jG.app hxs;have hxs:=jG.join hb ha;rw[List.take_append_drop]at hxs
 have es:(XS M false).map Prod.snd=(List.range 5).map (fun i x=>x=gW M i)++(List.range M.rules.length).map (fun i x=>∃g,oM (xF M.heads (vE M i).head) (vE M i) g/\x=nF (vE M i) i g)++(QD M).map (fun p x=>x=cQ p):=by
  unfold XS;rw[bf,bf,List.map_map,List.map_map,List.map_map];rfl
 rw[es]at hxs;obtain⟨xc,x3,e1,h1,h3⟩:=jG.app hxs;obtain⟨x1,x2,e2,h1,h2⟩:=jG.app h1;have q1:=jG.eq h1;have q3:=jG.eq h3;obtain⟨G,hG,q2⟩:=jG.ex (S:=fun i g=>oM (xF M.heads (vE M i).head) (vE M i) g) (F:=fun i g=>nF (vE M i) i g) M.rules.length h2;have ef:xb++xa=vC M G:=by rw[e1,e2,q1,q2,q3];rfl
 refine⟨G,xb.length,hG,?_,?_⟩
 ·unfold kS
  rw[e];show []++xs=_;rw[e0,<-ef];unfold bW;rw[List.drop_left,List.take_left];rfl
 ·unfold kS
  rw[e]
theorem zDK(h:yA M)(q:Nat):tw (gY (bW q (yJ M false)))=(bW q (yJ M false)).flatten:=ui _ fun ws hws=>zA3 h false ws ((cL _ _).mem_iff.1 hws)
theorem ul(h:yA M)(q:Nat):(gY (bW q (yJ M false))).length<=4000:=by
 have h1:=uu h false
 have e:(gY (bW q (yJ M false))).length=(gY (yJ M false)).length:=by
  unfold bW
  conv=>rhs;rw[<-List.take_append_drop q (yJ M false)]
  rw[Dg,Dg,tm,tm,Nat.add_comm]
 omega
variable {M:yB} {G:Nat->GR} {F:List zE}
theorem zBY:∀t,t<6->∀s,s<5->∀j,j<5->bU (fun i=>((iN 5 t ((i+s)%5):Nat):Int)) j 5=1:=by decide
theorem zBB(h:yA M)(hv:lV M v):(aK v s).length<=300:=by
 have hrot:∀k,(k+s)%5<5:=fun k=>Nat.mod_lt _ (by decide)
 have hw:∀j,j<5->(ZK v j).length<=4:=fun j _=>by
  by_cases hj:j<3
  ·have hr:=sQ h hv hj
   unfold ZK;rw[tl hj];exact(oJ hr.1 (by omega)).2.2.1
  ·rcases gL (v:=v) hj with ⟨e,-⟩|⟨e,-⟩ <;> rw[e] <;> decide
 have hi2:∀j,j<5->(yD j).length=2:=by decide
 have hl:∀i,(mV [yD ((i+s)%5),[61],ZK v ((i+s)%5),[59]]).length<=12:=fun i=>by
  have h1:=hw _ (hrot i);have h2:=hi2 _ (hrot i);have hif:∀b:Bs,(if b=[59] then b else 32::b).length<=b.length+1:=fun b=>by split <;> simp
  have h3:=hif [61];have h4:=hif (ZK v ((i+s)%5));have h5:=hif [59];have h6:([61]:Bs).length=1:=rfl;have h7:([59]:Bs).length=1:=rfl;have h8:([10]:Bs).length=1:=rfl;rw[show mV [yD ((i+s)%5),[61],ZK v ((i+s)%5),[59]]=yD ((i+s)%5)++((if ([61]:Bs)=[59] then [61] else 32::[61])++((if ZK v ((i+s)%5)=[59] then ZK v ((i+s)%5) else 32::ZK v ((i+s)%5))++((if ([59]:Bs)=[59] then [59] else 32::[59])++[10]))) from rfl,tm,tm,tm,tm];omega
 unfold aK gY J4;rw[List.flatMap_map,List.length_flatMap];have h0:=hl 0;have h1:=hl 1;have h2:=hl 2;have h3:=hl 3;have h4:=hl 4;simp only[List.range,List.range.loop,dc,List.map_nil,List.sum_cons,List.sum_nil];omega
theorem zJW(h:yA M)(hv:lV M v){tt ss:Nat}(hT:qC M G F tt ss)(hs:s<5):∃L,yU (zV F) (aK v s)=(L,0)/\L.length=5/\∀j,j<5->L.getD (iN 5 tt j) 0=v.inn j:=by
 have ht6:tt<6:=by have:=hT.t5;omega
 have htw:=zL1 h hv s;have hA:=Dm (aK v s);rw[htw]at hA
 have hAt:∀i,i<20->At (lY (aK v s)) i ((J4 v s).flatten.getD i []):=fun i hi=>by
  have:=Fo hA i (by rw[CC];exact hi);rw[cr]at this;exact this
 have hn:(lY (aK v s)).length=21:=by rw[zGT,htw,CC]
 have hk0:(yL (lY (aK v s)) 20).k=0:=by have:=uq (aK v s);rw[htw,CC]at this;exact this
 have hrot:∀k,(k+s)%5<5:=fun k=>Nat.mod_lt _ (by decide)
 have hare:dE (lY (aK v s))=true:=by
  unfold dE;rw[hn];refine zG9 (m:=20) (by decide) hk0 (fun i hi=>?_) 20 0 rfl;obtain⟨q,r,hq,hr,rfl⟩:∃q r,q<5/\r<4/\i=q*4+r:=⟨i/4,i%4,by omega,by omega,by omega⟩;obtain⟨g0,g1,g2,g3⟩:=zBA v s q hq;have ha:=hAt _ hi;unfold U6;rw[show (q*4+r)%4=r by omega];have hr4:r=0\/r=1\/r=2\/r=3:=by omega
  rcases hr4 with rfl|rfl|rfl|rfl
  ·rw[ld]at ha ⊢
   rw[g0]at ha;rw[tl rfl,ha.1,lG (hrot q)];rfl
  ·rw[g1]at ha
   rw[tb (by decide),tl rfl,ha.1,ha.2.1];decide
  ·rw[g2]at ha
   rw[tb (by decide),tb (by decide),tl rfl,ha.1];unfold oO;rw[ha.1,ha.2.1];by_cases hj:(q+s)%5<3
   ·rw[(Ku h hv hj).1];rfl
   ·rcases gL (v:=v) hj with ⟨e,-⟩|⟨e,-⟩ <;> rw[e] <;> decide
  ·rw[g3]at ha
   rw[tb (by decide),tb (by decide),tb (by decide),ha.1,ha.2.1];decide
 have hlen:=zBB h hv (s:=s);have hins:(zV F).map zO.name=bW tt zAF:=hT.ins
 have hfct:∀k,k<5->QI (aK v s) k=⟨yD ((k+s)%5),decide ((k+s)%5<3),v.inn ((k+s)%5)⟩:=fun k hk=>by
  obtain⟨g0,g1,g2,g3⟩:=zBA v s k hk;have a0:=hAt (k*4) (by omega);have a2:=hAt (k*4+2) (by omega);rw[g0]at a0;rw[g2]at a2;unfold QI qY;rw[a2.1,a2.2.1,a2.2.2,a0.2.1];by_cases hj:(k+s)%5<3
  ·rw[(Ku h hv hj).1,(Ku h hv hj).2,tl rfl,tr hj]
  ·have hfl:=hv.flag ((k+s)%5) (by omega) (hrot k)
   rw[tu hj];rcases gL (v:=v) hj with ⟨e,e2⟩|⟨e,e2⟩
   ·rw[e,tb (by decide),tl rfl,e2]
   ·rw[e,tb (by decide),tb (by decide),show v.inn ((k+s)%5)=0 by omega]
 have hplc:∀k,k<5->jU (zV F) (aK v s) k=((iN 5 tt ((k+s)%5):Nat):Int):=fun k hk=>by
  unfold jU;rw[hfct k hk,hins];exact Dy tt ht6 _ (hrot k)
 have hl5:=hT.il
 have hgood:Fz (zV F) (aK v s) 5:=by
  refine⟨fun k hk=>⟨by rw[hplc k hk];omega,?_⟩,fun j hj=>?_⟩
  ·unfold zB8
   rw[hplc k hk,hfct k hk,Int.toNat_natCast];show bM _ (kR (zV F) (iN 5 tt ((k+s)%5)))=true;rw[hT.inpA (fO (hrot k)),cF hT.t5 (hrot k)];unfold bM;by_cases hj:(k+s)%5<3
   ·have hr:=hv.num _ hj
    rw[gB hj];simp only[tr hj,my];rw[tr hr.1,tr hr.2];rfl
   ·rw[eV (by omega)]
    simp only[tu hj];rfl
  ·rw[hl5]at hj
   rw[CG j 5 hplc];exact zBY tt ht6 s hs j hj
 have htk:(vP (aK v s) 0).length=4*5:=by have:=lK (aK v s);omega
 obtain⟨L,e1,e2,e3⟩:=(ky (zV F) (aK v s) 5 htk).1 hgood;refine⟨L,?_,by rw[e2,hl5],fun j hj=>?_⟩
 ·unfold yU
  rw[tb (by omega),hare,tb (by decide)];exact e1
 ·have hk:((j+(5-s))%5+s)%5=j:=by omega
  have:=e3 ((j+(5-s))%5) (iN 5 tt j) (Nat.mod_lt _ (by decide)) (by rw[hplc _ (Nat.mod_lt _ (by decide)),hk]);rw[this,hfct _ (Nat.mod_lt _ (by decide)),hk]
variable {M:yB} {G:Nat->GR} {F:List zE} {t s:Nat}
def dN(F:List zE)(c:Nat):Nat:=(((zJ F).getD c []).getD 1 0).toNat-97
theorem zBN:∀d,d<4->((xM 99 d).getD 1 0).toNat-97=d:=by decide
theorem qC.dn(h:yA M)(hT:qC M G F t s){c:Nat}(hc:c<M.heads.length):dN F c∈M.heads/\YG F (dN F c)=c/\(zJ F).getD c []=xM 99 (dN F c):=by
 obtain⟨d,hd,e1,e2⟩:=hT.at h hc;have e:dN F c=d:=by unfold dN;rw[e2];exact zBN d (gJ h hd)
 rw[e];exact⟨hd,e1,e2⟩
theorem qC.dh(h:yA M)(hT:qC M G F t s)(hd:d∈M.heads):dN F (YG F d)=d:=by
 have h1:=(hT.place h hd).2.2;unfold dN;rw[h1];exact zBN d (gJ h hd)
def zKB(M:yB)(F:List zE)(t:Nat)(v:FV):yZ:=⟨(List.range 5).map fun j=>v.inn (qT 5 t j),(List.range M.heads.length).map fun c=>v.has (dN F c),[]⟩
def fvT(F:List zE)(t:Nat)(y:yZ):FV:=⟨fun i=>y.inputs.getD (iN 5 t i) 0,fun d=>kY y.has (zH (zJ F) (xM 99 d)),fun _=>0⟩
theorem zFZ(hT:qC M G F t s)(y:yZ)(hl:y.inputs.length=5):KL M.heads (fvT F t y) (Y1 (xR F) (zJ F) y):=⟨fun i hi=>by
 show qK y.inputs (zH (xR F) (yD i))=_;have:=fO (s:=t) hi;rw[hT.in_at hi];unfold qK;rw[tl ⟨by omega,by omega⟩,Int.toNat_natCast];rfl,fun _ _=>rfl⟩
theorem zFY(h:yA M)(hT:qC M G F t s)(v:FV):KL M.heads v (Y1 (xR F) (zJ F) (zKB M F t v)):=by
 refine⟨fun i hi=>?_,fun d hd=>?_⟩
 ·show qK ((List.range 5).map fun j=>v.inn (qT 5 t j)) (zH (xR F) (yD i))=_
  have:=fO (s:=t) hi;rw[hT.in_at hi,rC,tl ⟨by omega,by omega⟩,Int.toNat_natCast,cF hT.t5 hi]
 ·show kY ((List.range M.heads.length).map fun c=>v.has (dN F c)) (zH (zJ F) (xM 99 d))=_
  obtain⟨e1,e2,-⟩:=hT.place h hd;rw[YD,e1,tr (by omega),tr (by omega),Int.toNat_natCast,hT.dh h hd];rfl
theorem ki(hT:qC M G F t s)(hv:lV M v):ZZ (zV F) M.heads.length (zKB M F t v):=by
 have hl:=hT.il;have e:∀i,i<5->(zKB M F t v).inputs.getD i 0=v.inn (qT 5 t i):=fun i hi=>by show ((List.range 5).map fun j=>v.inn (qT 5 t j)).getD i 0=_;simp[List.getD,hi]
 refine⟨by rw[hl];simp[zKB],by simp[zKB],fun i hi hn=>?_,fun i hi hn=>?_⟩
 ·rw[hl]at hi
  unfold vB at hn;rw[hT.inpA hi]at hn ⊢;by_cases h3:qT 5 t i<3
  ·rw[gB h3,e i hi];exact hv.num _ h3
  ·rw[eV h3]at hn;cases hn
 ·rw[hl]at hi
  have:=tU (s:=t) hi;unfold vB at hn;rw[hT.inpA hi]at hn;by_cases h3:qT 5 t i<3
  ·rw[gB h3]at hn;cases hn
  ·rw[e i hi];exact hv.flag _ (by omega) this
theorem km(hT:qC M G F t s){y:yZ}(hy:ZZ (zV F) M.heads.length y):lV M (fvT F t y):=by
 have hl:=hT.il;refine⟨fun i h3=>?_,fun i h3 h5=>?_⟩
 ·have hp:=fO (s:=t) (show i<5 by omega)
  have ei:kR (zV F) (iN 5 t i)=jM (gW M i):=by rw[hT.inpA hp,cF hT.t5 (by omega)]
  have:=hy.num (iN 5 t i) (by omega) (by unfold vB;rw[ei,gB h3];rfl);rw[ei,gB h3]at this;exact this
 ·have hp:=fO (s:=t) h5
  have ei:kR (zV F) (iN 5 t i)=jM (gW M i):=by rw[hT.inpA hp,cF hT.t5 h5]
  exact hy.flag (iN 5 t i) (by omega) (by unfold vB;rw[ei,eV (by omega)];rfl)
theorem zL4(h:yA M)(hG:∀i,i<M.rules.length->oM (xF M.heads (vE M i).head) (vE M i) (G i))(hT:qC M G F t s)(hc:xX F){rs:List MX}(hr:rs.map Prod.fst=uZ ((zV F).map zO.name) ((xE F).map Prod.fst) F):(∃i j,F0 (zV F) (xE F).length rs (Cr F) i j) ↔ zHQ M:=by
 have h8:=h.few;have hsn:=hT.sn;obtain⟨hl,hat⟩:=jk hc hr;rw[hT.n]at hl hat
 have hat2:∀k,k<M.rules.length->(jC rs k).1=qI (xR F) (zJ F) (nF (vE M (qT M.rules.length s k)) (qT M.rules.length s k) (G (qT M.rules.length s k))):=fun k hk=>by
  rw[hat k hk,hT.rule hk]
 have hgr:Cr F=zW (uE (yW F) F gZ):=rfl;have hll:(xE F).length=M.heads.length:=by rw[X4 hc,hT.hlen h]
 have zLT:∀k,k<3->0<=zH (xR F) (yD k):=fun k hk=>by rw[hT.in_at (by omega)];omega
 have hco:∀d,d<4->zH (xR F) (xM 99 d)<0:=fun d hd=>hT.in_no hd
 have can:∀a b,a<M.rules.length->b<M.rules.length->(zCT (zV F) M.heads.length (jC rs a).1 (jC rs b).1 ↔ ∃v,lV M v/\oA v (vE M (qT M.rules.length s a))=true/\oA v (vE M (qT M.rules.length s b))=true):=fun a b ha hb=>by
  have la:=tU (s:=s) ha;have lb:=tU (s:=s) hb;rw[hat2 a ha,hat2 b hb];constructor
  ·rintro⟨y,hy,h1,h2⟩
   have hE:=zFZ hT y (by rw[hy.inl,hT.il]);rw[U8 h la (hG _ la) zLT hco hE]at h1;rw[U8 h lb (hG _ lb) zLT hco hE]at h2;exact⟨_,km hT hy,h1,h2⟩
  ·rintro⟨v,hv,h1,h2⟩
   have hE:=zFY h hT v;refine⟨zKB M F t v,ki hT hv,?_,?_⟩
   ·rw[U8 h la (hG _ la) zLT hco hE];exact h1
   ·rw[U8 h lb (hG _ lb) zLT hco hE];exact h2
 have riv:∀a b,a<M.rules.length->b<M.rules.length->(Vr rs (zW (uE (yW F) F gZ)) a b=true ↔ (vE M (qT M.rules.length s a)).head=(vE M (qT M.rules.length s b)).head/\gA (zW (dO M)) (qT M.rules.length s a) (qT M.rules.length s b)=false/\gA (zW (dO M)) (qT M.rules.length s b) (qT M.rules.length s a)=false):=fun a b ha hb=>by
  have la:=tU (s:=s) ha;have lb:=tU (s:=s) hb;unfold Vr;rw[hat2 a ha,hat2 b hb,Ub (by omega) (by omega),Ub (by omega) (by omega),hT.abv h ha hb,hT.abv h hb ha]
  have hcon:(qI (xR F) (zJ F) (nF (vE M (qT M.rules.length s a)) (qT M.rules.length s a) (G (qT M.rules.length s a)))).conc=(qI (xR F) (zJ F) (nF (vE M (qT M.rules.length s b)) (qT M.rules.length s b) (G (qT M.rules.length s b)))).conc ↔ (vE M (qT M.rules.length s a)).head=(vE M (qT M.rules.length s b)).head:=by
   show zH (zJ F) (xM 99 (vE M (qT M.rules.length s a)).head)=zH (zJ F) (xM 99 (vE M (qT M.rules.length s b)).head) ↔ _;have p1:=(hT.place h (fQ h la)).1;have p2:=(hT.place h (fQ h lb)).1;constructor
   ·intro e
    exact hT.place_inj h (fQ h la) (fQ h lb) (by omega)
   ·intro e;rw[e]
  rw[pe,po,hcon,pe];simp
 have sym:∀i j,i<M.rules.length->j<M.rules.length->i≠j->(vE M i).head=(vE M j).head->gA (zW (dO M)) i j=false->gA (zW (dO M)) j i=false->(∃v,lV M v/\oA v (vE M i)=true/\oA v (vE M j)=true)->zHQ M:=fun i j hi hj zLO e1 e2 e3 ⟨v,hv,h1,h2⟩=>by
  rcases Nat.lt_or_gt_of_ne zLO with l|l
  ·exact⟨i,j,l,hj,(Ql M i j).1 ⟨zLO,e1,e2,e3⟩,v,hv,h1,h2⟩
  ·exact⟨j,i,l,hi,(Ql M j i).1 ⟨fun e=>zLO e.symm,e1.symm,e3,e2⟩,v,hv,h2,h1⟩
 unfold F0;rw[hl,hgr,hll];constructor
 ·rintro⟨a,b,h1,h2,h3,h4⟩
  have ha:a<M.rules.length:=by omega
  obtain⟨r1,r2,r3⟩:=(riv a b ha h2).1 h3
  exact sym _ _ (tU ha) (tU h2) (fun e=>by
   have q:a=b:=by rw[<-oG hsn ha,<-oG hsn h2,e]
   omega) r1 r2 r3 ((can a b ha h2).1 h4)
 ·rintro⟨i,j,hij,hj,hap,v,hv,h1,h2⟩
  obtain⟨-,r1,r2,r3⟩:=(Ql M i j).2 hap;have hi:i<M.rules.length:=by omega
  have pi:=fO (s:=s) hi;have pj:=fO (s:=s) hj;have ei:=cF hsn hi;have ej:=cF hsn hj
  have zLO:iN M.rules.length s i≠iN M.rules.length s j:=fun e=>by
   have q:i=j:=by rw[<-ei,<-ej,e]
   omega
  rcases Nat.lt_or_gt_of_ne zLO with l|l
  ·exact⟨_,_,l,pj,(riv _ _ pi pj).2 (by rw[ei,ej];exact⟨r1,r2,r3⟩),(can _ _ pi pj).2 (by rw[ei,ej];exact⟨v,hv,h1,h2⟩)⟩
  ·exact⟨_,_,l,pi,(riv _ _ pj pi).2 (by rw[ei,ej];exact⟨r1.symm,r3,r2⟩),(can _ _ pj pi).2 (by rw[ei,ej];exact⟨v,hv,h2,h1⟩)⟩
open Go.RowKit
variable {M:yB} {G:Nat->GR} {F:List zE} {t s:Nat}
structure FrT(M:yB)(G:Nat->GR)(F:List zE)(t s:Nat):Prop where
 gr:∀i,i<M.rules.length->oM (xF M.heads (vE M i).head) (vE M i) (G i)
 tur:qC M G F t s
 calm:xX F
 mod:zCM F
 good:∀x∈F,gQ x
theorem zIK(h:yA M)(q:Nat):∃G F t s,FrT M G F t s/\∀w,Calls Tryz.prog 50 #[.string ⟨(gY (bW q (yJ M false))).toArray⟩] w fun e w'=>oE F w w' e:=by
 obtain⟨G,q',hG,e1,e2⟩:=FC h q (zDK h q);obtain⟨t,s,hT⟩:=zHZ M G q';have hl:=ul h q;generalize gY (bW q (yJ M false))=l at *;have zLS:∀x∈(kS l).1,gQ x:=fun x hx=>by rw[e1]at hx;exact zB4 h hG x (hT.perm.mem_iff.1 hx)
 have hmn:(kS l).1.length<=10000:=by
  rw[e1,tY,Zc];have h8:=h.few;have hov:=D6 h;omega
 have hnd:∀x∈(kS l).1,x.nd.length<=10000:=fun x hx=>by rw[e1]at hx;exact zJL hG x (hT.perm.mem_iff.1 hx)
 have hck:qG (kS l).1=(0,0):=by rw[e1];exact BG h hG hT.perm
 have hR:=fun w=>xw l w hl e2 zLS hmn hnd zEY;have hc:xX (kS l).1:=zHD (by rw[hck]);have hm:=zIV hc zLS;have hR2:=fun w=>(hR w).mono fun e w' q=>q.2 (by rw[hck]);rw[e1]at hc hm hR2 zLS;exact⟨G,_,t,s,⟨hG,hT,hc,hm,zLS⟩,hR2⟩
theorem zG6(h:yA M)(hv:lV M v)(hT:qC M G F t s){k:Nat}(hk:k<5):yU (zV F) (aK v k)=((List.range 5).map fun j=>v.inn (qT 5 t j),0):=by
 obtain⟨L,e,hl,hj⟩:=zJW h hv hT hk;rw[e];congr 1
 refine List.ext_getElem (by simp[hl]) fun i h1 h2=>?_;have hi:i<5:=by omega
 have:=hj (qT 5 t i) (tU hi);rw[oG hT.t5 hi,p8,pb h1]at this;simpa using this
structure DOk(M:yB)(D:Nat->Nat):Prop where
 mem:∀c,c<M.heads.length->D c∈M.heads
 all:∀d∈M.heads,∃c,c<M.heads.length/\D c=d
 inj:∀c c',c<M.heads.length->c'<M.heads.length->D c=D c'->c=c'
def zLF(M:yB)(D:Nat->Nat)(sd ad:Nat->Int)(w w':World)(e:Ending):Prop:=∃(na:Option Addr) (nc:Nat),e=.returned (.tuple #[.slice na M.heads.length nc,.int .i64 0])/\xA w' 55 na (zHG M.heads.length (fun c=>xM 99 (D c)) (fun c=>sd (D c)) (fun c=>ad (D c)))/\Below w.heap.size w w'
def zK1(M:yB)(s:Nat)(vd:Nat->Int)(w w':World)(e:Ending):Prop:=∃(va:Option Addr) (vc:Nat),e=.returned (.tuple #[.slice va M.rules.length vc,.int .i64 0])/\xA w' 51 va (zGQ M.rules.length (fun r=>xM 114 (qT M.rules.length s r)) (fun r=>vd (qT M.rules.length s r)))/\Below w.heap.size w w'
structure UF(M:yB)(HB:World->Nat->Prop)(v u:FV)(sd ad vd:Nat->Int)(D:Nat->Nat)(s:Nat):Prop where
 hear:Fx M u sd ad vd
 inn:∀i,u.inn i=v.inn i
 dok:DOk M D
 sn:s<=M.rules.length
 eval:∀k,k<5->∀w b,HB w b->Calls Tryz.prog 15 #[.pointer (some ⟨b,0,none⟩),.string ⟨(aK v k).toArray⟩] w fun e w'=>zLF M D sd ad w w' e
 weigh:∀k,k<5->∀w b,HB w b->Calls Tryz.prog 16 #[.pointer (some ⟨b,0,none⟩),.string ⟨(aK v k).toArray⟩] w fun e w'=>zK1 M s vd w w' e
structure zCP(M:yB)(src:Bs)(HB:World->Nat->Prop):Prop where
 below:∀w w' b,HB w b->Below w.heap.size w w'->HB w' b
 len:∀w,Calls Tryz.prog 27 #[.string ⟨src.toArray⟩,.bool false] w fun e w'=>zLD HB w w' e
 str:∀w,Calls Tryz.prog 27 #[.string ⟨src.toArray⟩,.bool true] w fun e w'=>zLC M w w' e
 told:∀v,lV M v->∃u sd ad vd D s,UF M HB v u sd ad vd D s
theorem zI2(h:yA M)(hF:FrT M G F t s)(hv:lV M v):∃u sd ad vd D s,UF M (fun w b=>∃rs,mM w b F rs) v u sd ad vd D s:=by
 have hc:=hF.calm;have hT:=hF.tur;have hcase:∀k,k<5->yU (zV F) (aK v k)=((List.range 5).map fun j=>v.inn (qT 5 t j),0):=fun k hk=>zG6 h hv hT hk
 have hs:Zq F ((List.range 5).map fun j=>v.inn (qT 5 t j)):=by
  have:=CJ hF.good (aK v 0);rw[hcase 0 (by decide)]at this;exact this
 have hsh:∀k,(aK v k).length<=maxLen:=fun k=>ty (zBB h hv) (by decide);have hll:(xE F).length=M.heads.length:=by rw[X4 hc,hT.hlen h]
 have hnm:∀c,c<M.heads.length->((xE F).getD c ([],0)).1=xM 99 (dN F c):=fun c hcc=>by
  have h2:((xE F).map Prod.fst).getD c []=(zJ F).getD c []:=by rw[wO hc]
  have hj2:c<(xE F).length:=by omega
  rw[(hT.dn h hcc).2.2]at h2;simpa[List.getD,hj2] using h2
 have hH:=zJC h hF.gr hT hc (L:=(List.range 5).map fun j=>v.inn (qT 5 t j)) (inn:=v.inn) (fun k hk=>by
  have:=fO (s:=t) hk;rw[hT.in_at hk,rC,tl ⟨by omega,by omega⟩,Int.toNat_natCast,cF hT.t5 hk])
 refine⟨_,_,_,_,dN F,s,hH,fun _=>rfl,⟨fun c hcc=>(hT.dn h hcc).1,fun d hd=>⟨YG F d,(hT.place h hd).2.1,hT.dh h hd⟩,fun c c' h1 h2 e=>by rw[<-(hT.dn h h1).2.1,<-(hT.dn h h2).2.1,e]⟩,hT.sn,fun k hk w b hB=>?_,fun k hk w b hB=>?_⟩
 ·obtain⟨rs,hB⟩:=hB
  refine(x5 w b F rs (aK v k) (hsh k) hB hc (fun _=>by rw[hcase k hk];exact hs)).mono ?_;rintro e w' ⟨va,vn,vc,na,nn,nc,rfl,-,h2,h3⟩;rw[hcase k hk]at h2;obtain⟨-,⟨a,c,e,hv⟩⟩:=h2 rfl;rw[hll]at e hv;refine⟨a,c,by rw[hcase k hk,e],?_,h3⟩
  have ev:∀z:vX,zHH (xE F) z=zHG M.heads.length (fun c=>xM 99 (dN F c)) (fun c=>z.st (YG F (dN F c))) (fun c=>z.av (YG F (dN F c))):=fun z=>by
   unfold zHH zHG;rw[hll];exact XT _ fun i hi=>by simp only[hnm i (pm.1 hi),(hT.dn h (pm.1 hi)).2.1]
  rw[ev]at hv;exact hv
 ·obtain⟨rs,hB⟩:=hB
  have hA:=hB.modA hc;have hln:rs.length=M.rules.length:=by rw[hA.len,hT.n]
  refine(CO w b F rs (aK v k) (hsh k) hB hc (fun _=>by rw[hcase k hk];exact hs)).mono ?_;rintro e w' ⟨va,vn,vc,na,nn,nc,rfl,-,h2,h3⟩;rw[hcase k hk]at h2;obtain⟨⟨a,c,e,hv⟩,-⟩:=h2 rfl;rw[hln]at e;rw[hll]at hv;refine⟨a,c,by rw[hcase k hk,e],?_,h3⟩
  have ev:∀z:vX,zGR rs z=zGQ M.rules.length (fun r=>xM 114 (qT M.rules.length s r)) (fun r=>z.vd (iN M.rules.length s (qT M.rules.length s r))):=fun z=>by
   unfold zGR zGQ;rw[hln];refine XT _ fun i hi=>?_;have hi2:=pm.1 hi;rw[hA.at (by omega)];simp only[oG hT.sn hi2];unfold rF;rw[hT.rule hi2];rfl
  rw[ev]at hv;exact hv
theorem zJ4(h:yA M)(q:Nat):∃HB,zCP M (gY (bW q (yJ M false))) HB:=by
 obtain⟨G,F,t,s,hF,hR⟩:=zIK h q;refine⟨fun w b=>∃rs,mM w b F rs,fun w w' b ⟨rs,hB⟩ hb=>⟨rs,hB.below hb⟩,fun w=>?_,fun w=>?_,fun v hv=>zI2 h hF hv⟩
 ·refine(UG _ w F (hR w)).mono ?_
  rintro e w' ⟨b,rfl,hB,hb⟩;exact⟨b,rfl,hB,hb⟩
 ·refine(QM _ w F hF.mod (hR w)).mono ?_
  rintro e w' ⟨rs,hr,hb,⟨b,rfl,hB,hn⟩|⟨rfl,i,j,hy⟩⟩
  ·exact⟨hb,.inl ⟨b,rfl,fun q=>by obtain⟨i,j,hij⟩:=(zL4 h hF.gr hF.tur hF.calm hr).2 q;exact hn i j hij⟩⟩
  ·exact⟨hb,.inr ⟨rfl,(zL4 h hF.gr hF.tur hF.calm hr).1 ⟨i,j,hy⟩⟩⟩
end Go.Proofs.YtnbpdffdnphbeabGreatDoor
