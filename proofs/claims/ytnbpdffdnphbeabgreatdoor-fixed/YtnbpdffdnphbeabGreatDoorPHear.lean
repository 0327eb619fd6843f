import Derived.Test.YtnbpdffdnphbeabGreatDoorPFv
import Derived.Test.YtnbpdffdnphbeabGreatDoorMCase
namespace Go.Proofs.YtnbpdffdnphbeabGreatDoor
variable{v:FV}{ls:List zE}{a j:Nat}
theorem Fz(A:jZ)(H:Nat)(hn:∀r c,r<A.n->A.nm r c->c<H)(hl:∀c,c<H->A.lev c<H)(hh:∀r,r<A.n->A.head r<H) :
 (∀r,r<A.n->(yX A H H 0 h0).vd r=eA A (fun k=>A.app k fun c=>decide ((yX A H H 0 h0).st c=1)) r) /\
 ∀c,c<H->(yX A H H 0 h0).st c=rT A (fun k=>A.app k fun c=>decide ((yX A H H 0 h0).st c=1)) c/\(yX A H H 0 h0).av c=oF (fun r=>A.sum r (yX A H H 0 h0).av) (xE A (fun k=>A.app k fun c=>decide ((yX A H H 0 h0).st c=1)) c):=by
 by_cases h0':H=0
 ·subst h0'
  exact⟨fun r hr=>absurd (hh r hr) (by omega),fun c hc=>absurd hc (by omega)⟩
 ·obtain⟨n,rfl⟩:∃n,H=n+1:=⟨H-1,by omega⟩
  obtain⟨h1,h2⟩:=YE A (n+1) hn hl hh n rfl;generalize yX A (n+1) (n+1) 0 h0=s at *;have hH:∀c,c<n+1->decide (s.st c=1)=pZ A (n+1) c:=fun c hc=>by rw[(h2 c hc).1];rfl
  have hon:∀r,r<A.n->Ye A n r=A.app r fun c=>decide (s.st c=1):=fun r hr=>by
   have e1:A.app r (fun c=>decide (s.st c=1))=Ye A (n+1) r:=A.happ r _ _ hr fun c hc=>hH c (hn r c hr hc);rw[e1];exact(sZ A hr (by have:=hl _ (hh r hr);omega) (by omega)).symm
  have zET:∀c,xE A (Ye A n) c=xE A (fun k=>A.app k fun c=>decide (s.st c=1)) c:=fun c=>bR A fun k hk _=>hon k hk;refine⟨fun r hr=>by rw[h1 r hr];exact iZ A hr fun k hk _=>hon k hk,fun c hc=>⟨by rw[(h2 c hc).1];unfold rT;rw[zET],?_⟩⟩;rw[<-zET,(h2 c hc).2];show oF (fun r=>A.sum r (pY A n)) (xE A (Ye A n) c)=_;refine dB fun r hr=>?_;obtain⟨k1,k2,-,-⟩:=gX A hr;refine A.hsum r _ _ k1 fun c' hn' => ?_;have h3:=hn r c' k1 hn';have h4:=A.hlev r c' k1 hn';have h5:=hl _ (hh r k1);rw[(h2 c' h3).2];exact((tB A (A.lev c'+1) c' n (by omega) (by omega)).2.trans (tB A (A.lev c'+1) c' (n+1) (by omega) (by omega)).2.symm)
variable {M:zT} {G:Nat->GR}
def aM(v:FV)(j:Nat):Bs:=if j<3 then Lib.itoa (v.inn j) else if v.inn j=1 then [121,101,115] else [110,111]
def YP(v:FV)(s:Nat):List (List Bs):=(List.range 5).map fun i=>[yG ((i+s)%5),[61],aM v ((i+s)%5),[59]]
def nM(v:FV)(s:Nat):Bs:=sR (YP v s)
theorem cJ(h:yF M)(hv:dZ M v)(hj:j<3):0<=v.inn j/\v.inn j<=9998:=by
 have h1:=h.nums j hj;have h2:=hv.num j hj;omega
theorem X8(h:yF M)(hv:dZ M v)(hj:j<3):yC (aM v j)=3/\qM (aM v j)=v.inn j:=by
 have hr:=cJ h hv hj;unfold aM;rw[tg hj];exact dL hr.1 (by omega)
theorem cS(hj:¬j<3):(aM v j=[121,101,115]/\v.inn j=1)\/(aM v j=[110,111]/\¬v.inn j=1):=by
 unfold aM;rw[t7 hj];by_cases h:v.inn j=1
 ·rw[tg h];exact .inl ⟨rfl,h⟩
 ·rw[t7 h];exact .inr ⟨rfl,h⟩
theorem zBQ(h:yF M)(hv:dZ M v):Wd (aM v j):=by
 by_cases hj:j<3
 ·have hr:=cJ h hv hj
  unfold aM;rw[tg hj];exact sS 2 (.inr rfl) (fV hr.1 (by omega)).1 (fV hr.1 (by omega)).2.1
 ·rcases cS (v:=v) hj with ⟨e,-⟩|⟨e,-⟩
  ·rw[e];exact sS 1 (.inl rfl) (by decide) (by decide)
  ·rw[e];exact sS 1 (.inl rfl) (by decide) (by decide)
theorem Uq:∀j,j<5->(yG j≠[]/\∀c∈yG j,so c=1):=by decide
theorem zDN(h:yF M)(hv:dZ M v)(s:Nat):tw (nM v s)=(YP v s).flatten:=by
 refine CI _ fun ws hws w hw=>?_;obtain⟨i,-,rfl⟩:=p7.1 hws;have hm:(i+s)%5<5:=Nat.mod_lt _ (by decide);simp only[l3,cx,or_false]at hw;rcases hw with rfl|rfl|rfl|rfl
 ·exact sS 1 (.inl rfl) (Uq _ hm).1 (Uq _ hm).2
 ·exact Xe (by decide) (by decide) (by decide) (by decide)
 ·exact zBQ h hv
 ·exact Xe (by decide) (by decide) (by decide) (by decide)
theorem U9{P:List PT}:∀ {ws:List Bs} {a:Nat},sP P a ws->∀i,i<ws.length->At P (a+i) (ws.getD i [])
 | [],_,_,i,hi=>absurd hi (by simp)
 | w::r,a,h,0,_=>h.1
 | w::r,a,h,i+1,hi=>by
   have:=U9 h.2 i (by simpa using hi);rw[show a+1+i=a+(i+1) by omega]at this;exact this
theorem Vo(v:FV)(s:Nat):(YP v s).flatten.length=20:=rfl
theorem FK(v:FV)(s i:Nat)(hi:i<5):(YP v s).flatten.getD (i*4) []=yG ((i+s)%5)/\(YP v s).flatten.getD (i*4+1) []=[61]/\(YP v s).flatten.getD (i*4+2) []=aM v ((i+s)%5)/\(YP v s).flatten.getD (i*4+3) []=[59]:=by
 have h:i=0\/i=1\/i=2\/i=3\/i=4:=by omega
 rcases h with rfl|rfl|rfl|rfl|rfl <;> exact⟨rfl,rfl,rfl,rfl⟩
theorem qy{P:List PT}{m:Nat}(hm:m%4=0)(hk:(yJ P m).k=0)(ha:∀i,i<m->J0 (yJ P i) i=true):∀n i,i+n=m->dT P (n+1) i=true:=by
 intro n
 induction n with
 | zero =>
   intro i hi;obtain rfl:i=m:=by omega
   rw[dT,tg ⟨hm,hk⟩]
 | succ n ih =>
   intro i hi;rw[dT];split
   ·rfl
   ·rw[ha i (by omega),ih (i+1) (by omega)];rfl
theorem qp:∀s,s<5->∀j,j<5->lD (fun i=>(((i+s)%5:Nat):Int)) j 5=1:=by decide
theorem Vt{p q:Nat->Int}(j:Nat):∀m,(∀k,k<m->p k=q k)->lD p j m=lD q j m:=by
 intro m
 induction m with
 | zero=>intro _;rfl
 | succ m ih=>intro h;rw[lD,lD,ih fun k hk=>h k (by omega),h m (by omega)]
theorem zC7(h:yF M)(hv:dZ M v){s:Nat}(hs:s<5):∃L,yQ (yE (zW M G)) (nM v s)=(L,0)/\L.length=5/\∀j,j<5->L.getD j 0=v.inn j:=by
 have htw:=zDN h hv s;have hA:=VJ (nM v s);rw[htw]at hA
 have hAt:∀i,i<20->At (mM (nM v s)) i ((YP v s).flatten.getD i []):=fun i hi=>by
  have:=U9 hA i (by rw[Vo];exact hi);rw[bs]at this;exact this
 have hn:(mM (nM v s)).length=21:=by rw[j9,htw,Vo]
 have hk0:(yJ (mM (nM v s)) 20).k=0:=by have:=CK (nM v s);rw[htw,Vo]at this;exact this
 have hrot:∀k,(k+s)%5<5:=fun k=>Nat.mod_lt _ (by decide)
 have hare:bF (mM (nM v s))=true:=by
  unfold bF;rw[hn];refine qy (m:=20) (by decide) hk0 (fun i hi=>?_) 20 0 rfl;obtain⟨q,r,hq,hr,rfl⟩:∃q r,q<5/\r<4/\i=q*4+r:=⟨i/4,i%4,by omega,by omega,by omega⟩;obtain⟨g0,g1,g2,g3⟩:=FK v s q hq;have ha:=hAt _ hi;unfold J0;rw[show (q*4+r)%4=r by omega];have hr4:r=0\/r=1\/r=2\/r=3:=by omega
  rcases hr4 with rfl|rfl|rfl|rfl
  ·rw[mj]at ha ⊢
   rw[g0]at ha;rw[tg rfl,ha.1,pT (hrot q)];rfl
  ·rw[g1]at ha
   rw[t7 (by decide),tg rfl,ha.1,ha.2.1];decide
  ·rw[g2]at ha
   rw[t7 (by decide),t7 (by decide),tg rfl,ha.1];unfold fF;rw[ha.1,ha.2.1];by_cases hj:(q+s)%5<3
   ·rw[(X8 h hv hj).1];rfl
   ·rcases cS (v:=v) hj with ⟨e,-⟩|⟨e,-⟩ <;> rw[e] <;> decide
  ·rw[g3]at ha
   rw[t7 (by decide),t7 (by decide),t7 (by decide),ha.1,ha.2.1];decide
 have zEE:(nM v s).length<=300:=by
  have hw:∀j,j<5->(aM v j).length<=4:=fun j _=>by
   by_cases hj:j<3
   ·have hr:=cJ h hv hj
    unfold aM;rw[tg hj];exact(fV hr.1 (by omega)).2.2.1
   ·rcases cS (v:=v) hj with ⟨e,-⟩|⟨e,-⟩ <;> rw[e] <;> decide
  have hi2:∀j,j<5->(yG j).length=2:=by decide
  have hl:∀i,(pF [yG ((i+s)%5),[61],aM v ((i+s)%5),[59]]).length<=12:=fun i=>by
   have h1:=hw _ (hrot i);have h2:=hi2 _ (hrot i);have hif:∀b:Bs,(if b=[59] then b else 32::b).length<=b.length+1:=fun b=>by split <;> simp
   have h3:=hif [61];have h4:=hif (aM v ((i+s)%5));have h5:=hif [59];have h6:([61]:Bs).length=1:=rfl;have h7:([59]:Bs).length=1:=rfl;have h8:([10]:Bs).length=1:=rfl;rw[show pF [yG ((i+s)%5),[61],aM v ((i+s)%5),[59]]=yG ((i+s)%5)++((if ([61]:Bs)=[59] then [61] else 32::[61])++((if aM v ((i+s)%5)=[59] then aM v ((i+s)%5) else 32::aM v ((i+s)%5))++((if ([59]:Bs)=[59] then [59] else 32::[59])++[10]))) from rfl,tb,tb,tb,tb];omega
  unfold nM sR YP;rw[List.flatMap_map,List.length_flatMap];have h0:=hl 0;have h1:=hl 1;have h2:=hl 2;have h3:=hl 3;have h4:=hl 4;simp only[List.range,List.range.loop,bw,List.map_nil,List.sum_cons,List.sum_nil];omega
 have hins:(yE (zW M G)).map zV.name=QS:=XA M G
 have hfct:∀k,k<5->Yo (nM v s) k=⟨yG ((k+s)%5),decide ((k+s)%5<3),v.inn ((k+s)%5)⟩:=fun k hk=>by
  obtain⟨g0,g1,g2,g3⟩:=FK v s k hk;have a0:=hAt (k*4) (by omega);have a2:=hAt (k*4+2) (by omega);rw[g0]at a0;rw[g2]at a2;unfold Yo qC;rw[a2.1,a2.2.1,a2.2.2,a0.2.1];by_cases hj:(k+s)%5<3
  ·rw[(X8 h hv hj).1,(X8 h hv hj).2,tg rfl,tl hj]
  ·have hfl:=hv.flag ((k+s)%5) (by omega) (hrot k)
   rw[tm hj];rcases cS (v:=v) hj with ⟨e,e2⟩|⟨e,e2⟩
   ·rw[e,t7 (by decide),tg rfl,e2]
   ·rw[e,t7 (by decide),t7 (by decide),show v.inn ((k+s)%5)=0 by omega]
 have hplc:∀k,k<5->kL (yE (zW M G)) (nM v s) k=(((k+s)%5:Nat):Int):=fun k hk=>by
  unfold kL;rw[hfct k hk,hins];exact KQ _ (hrot k)
 have hl5:=BB M G
 have hgood:UF (yE (zW M G)) (nM v s) 5:=by
  refine⟨fun k hk=>⟨by rw[hplc k hk];omega,?_⟩,fun j hj=>?_⟩
  ·unfold FH
   rw[hplc k hk,hfct k hk,Int.toNat_natCast];show mW _ (Z6 (yE (zW M G)) ((k+s)%5))=true;rw[zBE (hrot k)];unfold mW;by_cases hj:(k+s)%5<3
   ·have hr:=hv.num _ hj
    rw[BC hj];simp only[tl hj,mh];rw[tl hr.1,tl hr.2];rfl
   ·rw[KS (by omega)]
    simp only[tm hj];rfl
  ·rw[hl5]at hj
   rw[Vt j 5 hplc];exact qp s hs j hj
 have htk:(vC (nM v s) 0).length=4*5:=by have:=pU (nM v s);omega
 obtain⟨L,e1,e2,e3⟩:=(Dq (yE (zW M G)) (nM v s) 5 htk).1 hgood;refine⟨L,?_,by rw[e2,hl5],fun j hj=>?_⟩
 ·unfold yQ
  rw[t7 (by omega),hare,t7 (by decide)];exact e1
 ·have hk:((j+(5-s))%5+s)%5=j:=by omega
  have:=e3 ((j+(5-s))%5) j (Nat.mod_lt _ (by decide)) (by rw[hplc _ (Nat.mod_lt _ (by decide)),hk]);rw[this,hfct _ (Nat.mod_lt _ (by decide)),hk]
theorem U4(h:yF M)(hv:dZ M v){s:Nat}(hs:s<5):yQ (yE (zW M G)) (nM v s)=((List.range 5).map v.inn,0):=by
 obtain⟨L,e,hl,hj⟩:=zC7 (G:=G) h hv hs;rw[e];congr 1
 refine List.ext_getElem (by simp[hl]) fun i h1 h2=>?_;have:=hj i (by omega);rw[tu,p9 h1]at this;simpa using this
theorem FJ(h:yF M)(hv:dZ M v){s:Nat}(hs:s<5):(nM v s).length<=300:=by
 have e:=U4 (G:=fun _=>⟨[],0,0,0⟩) h hv hs;unfold yQ at e;by_cases hl:300<(nM v s).length
 ·rw[tg hl]at e
  exact absurd (congrArg Prod.snd e) (show ¬((1:Int)=0) by decide)
 ·omega
variable {M:zT} {G:Nat->GR}
def eO(M:zT)(v:FV)(r:Nat):Bool:=(List.range M.rules.length).any fun k=>bG v (vB M k)&&gA (zR (jW M)) k r
def tJ(M:zT)(v:FV)(r:Nat):Int:=if bG v (vB M r) then (if eO M v r then 1 else 2) else 0
def oJ(M:zT)(v:FV)(h:Nat):List Nat:=(List.range M.rules.length).filter fun r=>decide ((vB M r).head=h)&&(bG v (vB M r) && !eO M v r)
theorem aG(h:yF M){b:Nat}(ha:a<M.heads.length)(hb:b<M.heads.length)(e:M.heads.getD a 0=M.heads.getD b 0):a=b:=by
 have hn:M.heads.Nodup:=by rw[h.heads];exact nZ _
 have h1:=List.pairwise_iff_getElem.1 hn;simp only[List.getD,p9 ha,p9 hb,Option.getD_some]at e;rcases Nat.lt_trichotomy a b with h2|h2|h2
 ·exact absurd e (h1 a b ha hb h2)
 ·exact h2
 ·exact absurd e.symm (h1 b a hb ha h2)
theorem sB(h:yF M){x:Nat}(hx:x∈M.heads):x<4:=by
 rw[h.heads]at hx;rcases(nL (M.rules.map vF.head) [] (x:=x)).1 hx with q|q
 ·cases q
 ·obtain⟨r,hr,rfl⟩:=p7.1 q;exact(h.rules r hr).head
theorem jY(h:yF M){d:Nat}(hd:d∈M.heads):∃a,a<M.heads.length/\zJ (M.heads.map (xG 99)) (xG 99 d)=(a:Int)/\M.heads.getD a 0=d:=by
 obtain⟨a,ha,e1,e2⟩:=BQ (l:=M.heads.map (xG 99)) (p7.2 ⟨d,hd,rfl⟩);rw[pi]at ha;refine⟨a,ha,e1,?_⟩;rw[tu,List.getElem?_map,p9 ha]at e2;have e3:M.heads[a]=d:=Gl _ (sB h (cg ha)) d (sB h hd) e2;simp[List.getD,ha,e3]
theorem UZ(h:yF M){r:Nat}(hr:r<M.rules.length):(vB M r).head∈M.heads:=by
 rw[h.heads];exact(nL (M.rules.map vF.head) []).2 (.inr (p7.2 ⟨_,pV hr,rfl⟩))
theorem V4{f g:Nat->Bool}(l:List Nat)(h:∀x∈l,f x=g x):l.any f=l.any g:=by
 induction l with
 | nil=>rfl
 | cons x r ih=>rw[li,li,h x (by simp),ih fun y hy=>h y (by simp[hy])]
theorem V2{b:Nat}(hh:XF (uE (zN ls) ls gZ) a b):a<(zN ls).length/\b<(zN ls).length/\True:=by
 obtain⟨ha,hb,hg⟩:=hh;rw[Zg _ _ ha hb _ yY,KX,lk]at hg;obtain⟨x,-,hx⟩:=me.1 hg;unfold ke at hx;rw[pr,pr,bt,pu,pu]at hx;obtain⟨-,e1,e2⟩:=hx;refine⟨by have:=(kR (zN ls) x.conc).2;omega,?_,trivial⟩;rcases e2 with e2|e2
 ·obtain⟨y,-,hy⟩:=me.1 e2
  have e3:=ly hy;have:=(kR (zN ls) y.name).2;omega
 ·obtain⟨y,-,hy⟩:=me.1 e2
  rw[pr]at hy;have e3:=ly hy.2;have:=(kR (zN ls) y.name).2;omega
theorem Fc(h:vJ ls)(ha:a<(zN ls).length):bO (uE (zN ls) ls gZ) a<(zN ls).length:=by
 have h8:=h.heads;have hl:(uE (zN ls) ls gZ).length=64:=by rw[cL];exact yY
 have harr:=fun {a b:Nat} (hh:XF (uE (zN ls) ls gZ) a b)=>V2 hh;have hr:=h.nam;generalize uE (zN ls) ls gZ=G at *;generalize (zN ls).length=H at *;obtain⟨H,rfl⟩:∃k,H=k+1:=⟨H-1,by omega⟩
 have top:∀a,a<8->cZ G (H+1) a<=H:=by
  intro a ha8;have hle:=Y8 G (H+1) a;rcases pf (cZ G (H+1) a) (H+1) with h1|h1
  ·omega
  ·exfalso
   obtain⟨x,-,hx8,hx⟩:=QC G (H+1) a ha8 (by omega)
   have zEL:∀i,i<=H+1->x i<H+1:=fun i hi=>by
    rcases Nat.eq_zero_or_pos i with h0|h0
    ·subst h0;exact(harr (hx 0 (by omega))).1
    ·have:=(harr (hx (i-1) (by omega))).2.1
     rwa [show i-1+1=i by omega]at this
   obtain⟨i,j,h1,h2,h3⟩:=Qg (H+1) x zEL;have ht:=Jv hx (j-i-1) i (by omega);rw[show i+(j-i-1)+1=j by omega,<-h3]at ht;have:qA G=true:=(sX hl).2 ⟨x i,hx8 i (by omega),ht⟩;rw[hr]at this;cases this
 have still:∀d a,a<8->cZ G (H+1+d) a=cZ G H a:=by
  intro d
  induction d with
  | zero=>intro a ha8;exact(Zm G H a (top a ha8)).symm
  | succ d ih =>
    intro a ha8;rw[show H+1+(d+1)=(H+1+d)+1 by omega,cZ];have e:nQ (gA G a) (cZ G (H+1+d)) 8 0 0=nQ (gA G a) (cZ G H) 8 0 0:=Q6 8 0 0 fun z _ hz=>⟨rfl,fun _=>ih z (by omega)⟩;rw[e];exact(Zm G H a (top a ha8)).symm
 unfold bO;rcases pf 7 (H+1) with h1|h1
 ·have:=Y8 G 7 a;omega
 ·have:=still (7-(H+1)) a (by omega)
  rw[show H+1+(7-(H+1))=7 by omega]at this;rw[this];have:=Y8 G H a;omega
def gB(M:zT)(inn:Nat->Int)(st av:Nat->Int):FV:=⟨inn,fun d=>decide (d∈M.heads)&&decide (st (zJ (M.heads.map (xG 99)) (xG 99 d)).toNat=1),fun d=>if d∈M.heads then av (zJ (M.heads.map (xG 99)) (xG 99 d)).toNat else 0⟩
def aY(x:zV):Prop:=0<=x.low/\x.high<=9999
theorem Fk(ls:List zE):∀acc,(∀x∈acc,aY x)->(∀x∈ls,cW x)->∀x∈bA ls acc,aY x:=by
 induction ls with
 | nil=>intro acc h _;exact h
 | cons y r ih =>
   intro acc h hg;rw[bA];refine ih _ ?_ (fun x hx=>hg x (by simp[hx]));split
   ·intro x hx
    rcases pt.1 hx with hx|hx
    ·exact h x hx
    ·rw[po.1 hx]
     have gy:=hg y (by simp);unfold tQ aY;split
     ·exact⟨gy.lo0,gy.hi1⟩
     ·exact⟨mp _,show (0:Int)<=9999 by decide⟩
   ·exact h
theorem ud(hg:∀x∈ls,cW x)(i:Nat):aY ((yE ls).getD i eX):=by
 have h:=Fk ls [] (by simp) hg;by_cases hi:i<(yE ls).length
 ·have:(yE ls).getD i eX∈yE ls:=by rw[tu,p9 hi];exact cg hi
  exact h _ this
 ·rw[tu,List.getElem?_eq_none (by omega)]
  exact⟨mp _,show (0:Int)<=9999 by decide⟩
def zCD(l:List Int):Prop:=∀j,0<=l.getD j 0/\l.getD j 0<=9999
theorem zCD.set{l:List Int}(h:zCD l)(i:Nat){x:Int}(hx:0<=x/\x<=9999):zCD (l.set i x):=fun j=>by
 simp only[List.getD,List.getElem?_set];by_cases e:i=j
 ·rw[tg e]
  by_cases hl:i<l.length
  ·rw[tg hl];exact hx
  ·rw[t7 hl];exact⟨mp _,show (0:Int)<=9999 by decide⟩
 ·rw[t7 e];exact h j
theorem Vk{f:Xc}{x:zV}(hx:aY x)(hf:f.isNum=false->f.value=0\/f.value=1)(h:mW f x=true):0<=f.value/\f.value<=9999:=by
 unfold mW at h;obtain⟨h1,h2⟩:=hx;split at h
 ·have:=hf (by simpa using h)
  omega
 ·simp only[pr,pu]at h
  omega
theorem BW(n v:PT):(qC n v).isNum=false->(qC n v).value=0\/(qC n v).value=1:=by
 unfold qC;split
 ·intro h;exact absurd h (by simp)
 ·intro _
  show (if v.s=[121,101,115] then (1:Int) else 0)=0\/(if v.s=[121,101,115] then (1:Int) else 0)=1;split
  ·exact .inr rfl
  ·exact .inl rfl
theorem Qt(P:List PT)(I:List zV)(hI:∀i,aY (I.getD i eX)):∀n i st st',zCD st.1->jF P I n i st=some st'->zCD st'.1:=by
 intro n
 induction n with
 | zero=>intro i st st' h e;rw[jF]at e;rw[<-Option.some.inj e];exact h
 | succ n ih =>
   intro i st st' h e;rw[jF]at e;split at e
   ·split at e
    ·cases e
    ·split at e
     ·cases e
     ·split at e
      ·cases e
      ·rename_i hft
       have hft':mW (qC (yJ P (i*4)) (yJ P (i*4+2))) (I.getD (zJ (I.map zV.name) (qC (yJ P (i*4)) (yJ P (i*4+2))).name).toNat eX)=true:=by
        cases hz:mW (qC (yJ P (i*4)) (yJ P (i*4+2))) (I.getD (zJ (I.map zV.name) (qC (yJ P (i*4)) (yJ P (i*4+2))).name).toNat eX) with
        | true=>rfl
        | false=>exact absurd hz hft
       exact ih _ _ _ (h.set _ (Vk (hI _) (BW _ _) hft')) e
   ·rw[<-Option.some.inj e];exact h
theorem Vv(hg:∀x∈ls,cW x)(f:Bs):oC ls (yQ (yE ls) f).1:=by
 refine⟨fun x hx _ p hp=>?_,fun i=>?_⟩
 ·obtain⟨j,hj,rfl⟩:=List.getElem_of_mem hp
  have:=(hg x hx).sums j hj;unfold Yc at this;rw[tu,p9 hj]at this;exact this
 ·have key:zCD (yQ (yE ls) f).1:=by
   have h0:zCD []:=fun j=>⟨mp _,show (0:Int)<=9999 by decide⟩;unfold yQ;split
   ·exact h0
   ·split
    ·exact h0
    ·split
     ·exact h0
     ·rename_i st zET
      split
      ·refine Qt _ _ (ud hg) _ _ _ _ ?_ zET
       intro j;simp only[List.getD,bf];split <;> exact⟨mp _,show (0:Int)<=9999 by decide⟩
      ·exact h0
  have:=key i;omega
open Go.RowKit
def vdW(n:Nat)(f:Nat->Bs)(g:Nat->Int):List Value:=(List.range n).flatMap fun i=>[.string ⟨(f i).toArray⟩,.int .i64 (g i)]
def zCP(n:Nat)(f:Nat->Bs)(g h:Nat->Int):List Value:=(List.range n).flatMap fun i=>[.string ⟨(f i).toArray⟩,.int .i64 (g i),.int .i64 (h i)]
theorem ZF{f g:Nat->List Value}(l:List Nat)(h:∀i∈l,f i=g i):l.flatMap f=l.flatMap g:=by
 induction l with
 | nil=>rfl
 | cons x r ih=>rw[ba,ba,h x (by simp),ih fun i hi=>h i (by simp[hi])]
theorem zCX{w:World}{a:Option Addr}{n:Nat}{f:Nat->Bs}{g:Nat->Int}(h:bQ w a (vdW n f g)){i:Nat}(hi:i<n):∃G,a=some ⟨G,0,none⟩/\w.cell? ⟨G,i*2,none⟩=some (.string ⟨(f i).toArray⟩)/\w.cell? ⟨G,i*2+1,none⟩=some (.int .i64 (g i)):=by
 have k:=fun r (hr:r<2)=>zY (fun i=>[Value.string ⟨(f i).toArray⟩,.int .i64 (g i)]) 2 (fun _=>rfl) 0 (List.range n) i r (by simpa using hi) hr;rw[pG n i hi]at k;obtain⟨G,e,c0⟩:=h.at (k 0 (by decide));obtain⟨G',e',c1⟩:=h.at (k 1 (by decide));obtain rfl:G=G':=by rw[e]at e';simpa using e'
 exact⟨G,e,c0,c1⟩
theorem G2{w:World}{a:Option Addr}{n:Nat}{f:Nat->Bs}{g k:Nat->Int}(h:bQ w a (zCP n f g k)){i:Nat}(hi:i<n):∃G,a=some ⟨G,0,none⟩/\w.cell? ⟨G,i*3,none⟩=some (.string ⟨(f i).toArray⟩)/\w.cell? ⟨G,i*3+1,none⟩=some (.int .i64 (g i))/\w.cell? ⟨G,i*3+2,none⟩=some (.int .i64 (k i)):=by
 have q:=fun r (hr:r<3)=>zY (fun i=>[Value.string ⟨(f i).toArray⟩,.int .i64 (g i),.int .i64 (k i)]) 3 (fun _=>rfl) 0 (List.range n) i r (by simpa using hi) hr;rw[pG n i hi]at q;obtain⟨G,e,c0⟩:=h.at (q 0 (by decide));obtain⟨G',e',c1⟩:=h.at (q 1 (by decide));obtain⟨G'',e'',c2⟩:=h.at (q 2 (by decide));obtain rfl:G=G':=by rw[e]at e';simpa using e'
 obtain rfl:G=G'':=by rw[e]at e'';simpa using e''
 exact⟨G,e,c0,c1,c2⟩
variable {M:zT} {G:Nat->GR}
def uK(v:FV)(p:yR):Int:=if 0<=p.num then p.n*v.inn p.num.toNat else if 0<=p.head then p.n*v.val p.head.toNat else p.n
def nP(v:FV):List yR->Int->Int
 | [],n=>n
 | p::r,n=>nP v r (if p.minus=true then n-uK v p else n+uK v p)
def sT(v:FV)(r:vF):Int:=nP v r.parts 0
structure zE4(heads:List Nat)(v:FV)(ins cs:List Bs)(s:xZ):Prop where
 num:∀i,i<3->qV s.inputs (zJ ins (yG i))=v.inn i
 val:∀d∈heads,qV s.values (zJ cs (xG 99 d))=v.val d
theorem JP{ins cs:List Bs}{s:xZ}{heads:List Nat}{h:Nat}(hh:h<=4)(zEL:∀i,i<3->0<=zJ ins (yG i))(hco:∀d,d<4->zJ ins (xG 99 d)<0)(hE:zE4 heads v ins cs s){p:yR}(hp:qZ (yW heads h) p)(h1:J9 p)(m:Bool):mC s (xJ ins cs (mS m p))=if m=true then -uK v p else uK v p:=by
 obtain⟨mi,ti,n,nu,hd⟩:=p;have ne1:∀i,¬yG i=[]:=fun i e=>by have:=iQ i;rw[e]at this;cases this
 have ne2:∀d,¬xG 99 d=[]:=fun d=>by unfold xG;simp
 have kN:∀(st:Bool) (z:Int) (i:Nat),i<3->mC s (xJ ins cs ⟨m,st,z,yG i⟩)=(if m=true then -(if st=true then z else 1) else (if st=true then z else 1))*v.inn i:=fun st z i hi=>by
  have hf:=zEL i hi;have a1:Xr ins ⟨m,st,z,yG i⟩=2:=by unfold Xr;rw[t7 (ne1 i),t7 (by simp only;omega)]
  have a2:C1 ins cs ⟨m,st,z,yG i⟩=zJ ins (yG i):=by unfold C1;rw[t7 (ne1 i),t7 (by simp only;omega)]
  have a3:JE ⟨m,st,z,yG i⟩=if st=true then z else 1:=by unfold JE;rw[t7 (ne1 i)]
  unfold xJ mC;simp only[a1,a2,a3];rw[t7 (by decide),tg trivial,hE.num i hi]
 have kH:∀(st:Bool) (z:Int) (d:Nat),d∈heads->d<4->mC s (xJ ins cs ⟨m,st,z,xG 99 d⟩)=(if m=true then -(if st=true then z else 1) else (if st=true then z else 1))*v.val d:=fun st z d hdm hd4=>by
  have hf:=hco d hd4;have a1:Xr ins ⟨m,st,z,xG 99 d⟩=3:=by unfold Xr;rw[t7 (ne2 d),tg hf]
  have a2:C1 ins cs ⟨m,st,z,xG 99 d⟩=zJ cs (xG 99 d):=by unfold C1;rw[t7 (ne2 d),tg hf]
  have a3:JE ⟨m,st,z,xG 99 d⟩=if st=true then z else 1:=by unfold JE;rw[t7 (ne2 d)]
  unfold xJ mC;simp only[a1,a2,a3];rw[t7 (by decide),t7 (by decide),tg trivial,hE.val d hdm]
 unfold J9 at h1;rcases hp with ⟨h0,h2,h3,h4⟩|⟨h0,h2,h3⟩|⟨h0,h2,h3,h4⟩|⟨h2,h3,d,hd4,h4⟩
 ·simp only at h0 h2 h3 h4 h1
  subst h0 h3 h4;have e2:mS m ⟨mi,false,n,-1,-1⟩=⟨m,false,n,[]⟩:=by simp[mS]
  rw[e2];show (if m then -n else n)=if m=true then -n else n;rfl
 ·simp only at h0 h2 h3 h1
  subst h0 h3
  have hn:n=1:=by
   rcases h1 with h1|h1|h1
   ·cases h1
   ·exact h1
   ·omega
  subst hn;have e2:mS m ⟨mi,false,1,nu,-1⟩=⟨m,false,0,yG nu.toNat⟩:=by simp[mS,h2.1]
  rw[e2,kN _ _ _ (by omega)];unfold uK;simp only[tg h2.1];cases m <;> simp[Int.neg_mul]
 ·simp only at h0 h2 h3 h4
  subst h0 h4;have e2:mS m ⟨mi,true,n,nu,-1⟩=⟨m,true,n,yG nu.toNat⟩:=by simp[mS,h3.1]
  rw[e2,kN _ _ _ (by omega)];unfold uK;simp only[tg h3.1];cases m <;> simp[Int.neg_mul]
 ·simp only at h2 h3 h4 h1
  subst h3 h4;unfold yW at hd4;rw[mu,ph,pu]at hd4;obtain⟨zE9,hm⟩:=hd4
  have eT:uK v ⟨mi,ti,n,-1,(d:Int)⟩=n*v.val d:=by
   unfold uK;simp only;rw[t7 (by decide),tg (by omega),Int.toNat_natCast]
  rw[eT]
  cases ti with
  | true =>
    have e2:mS m ⟨mi,true,n,-1,d⟩=⟨m,true,n,xG 99 d⟩:=by simp[mS]
    rw[e2,kH _ _ _ hm (by omega)];cases m <;> simp[Int.neg_mul]
  | false =>
    have hn:n=1:=by
     rcases h1 with h1|h1|h1
     ·cases h1
     ·exact h1
     ·omega
    subst hn;have e2:mS m ⟨mi,false,1,-1,d⟩=⟨m,false,0,xG 99 d⟩:=by simp[mS]
    rw[e2,kH _ _ _ hm (by omega)];cases m <;> simp[Int.neg_mul]
theorem zD1{r:vF}{heads:List Nat}(hr:bI heads r){ins cs:List Bs}{s:xZ}(zEL:∀i,i<3->0<=zJ ins (yG i))(hco:∀d,d<4->zJ ins (xG 99 d)<0)(hE:zE4 heads v ins cs s):rB s ((gK r.parts).map (xJ ins cs))=sT v r:=by
 have h4:=hr.head
 have key:∀(l:List yR) (n:Int),(∀p∈l,qZ (yW heads r.head) p)->(∀p∈l,J9 p)->mU s ((l.map fun q=>mS q.minus q).map (xJ ins cs)) n=nP v l n:=by
  intro l
  induction l with
  | nil=>intro n _ _;rfl
  | cons p l ih =>
    intro n h1 h2;rw[bw,bw,mU,nP,JP (by omega) zEL hco hE (h1 p (by simp)) (h2 p (by simp)),ih _ (fun q hq=>h1 q (by simp[hq])) (fun q hq=>h2 q (by simp[hq]))];congr 1
    cases p.minus <;> simp;omega
 unfold rB sT;have hu:=hr.unit;have hp:=hr.parts.2.2
 cases hps:r.parts with
 | nil=>rfl
 | cons p l =>
   rw[hps]at hu hp;have hm:=hu.2 p l rfl;have e:gK (p::l)=(p::l).map fun q=>mS q.minus q:=by show mS false p::_=mS p.minus p::_;rw[hm]
   rw[e];exact key _ 0 hp hu.1
structure GP(M:zT)(u:FV)(st av vd:Nat->Int):Prop where
 kvd:∀r,r<M.rules.length->vd r=tJ M u r
 kst:∀c,c<M.heads.length->st c=cO (oJ M u (M.heads.getD c 0))
 kav:∀c,c<M.heads.length->av c=oF (fun r=>sT u (vB M r)) (oJ M u (M.heads.getD c 0))
 has:∀c,c<M.heads.length->u.has (M.heads.getD c 0)=decide (st c=1)
 val:∀c,c<M.heads.length->u.val (M.heads.getD c 0)=av c
 big:∀c,c<M.heads.length -> -28208277964652544<=av c/\av c<=28208277964652544
theorem zBL(h:yF M)(hF:FrG M G){L:List Int}{inn:Nat->Int}(hL:L.length=5)(hLi:∀j,j<5->L.getD j 0=inn j)(hs:oC (zW M G) L) :
 GP M (gB M inn (yX (xU (zW M G) L hF.calm) M.heads.length M.heads.length 0 h0).st (yX (xU (zW M G) L hF.calm) M.heads.length M.heads.length 0 h0).av) (yX (xU (zW M G) L hF.calm) M.heads.length M.heads.length 0 h0).st (yX (xU (zW M G) L hF.calm) M.heads.length M.heads.length 0 h0).av (yX (xU (zW M G) L hF.calm) M.heads.length M.heads.length 0 h0).vd:=by
 have hc:=hF.calm;have eH:(zN (zW M G)).length=M.heads.length:=by rw[lJ h,pi]
 have hn:∀r c,r<(xU (zW M G) L hc).n->(xU (zW M G) L hc).nm r c->c<M.heads.length:=fun r c hr hm=>by rw[<-eH];exact(K1 hc hr hm).1
 have hl:∀c,c<M.heads.length->(xU (zW M G) L hc).lev c<M.heads.length:=fun c zEV=>by have:=Fc hc (a:=c) (by omega);rw[eH]at this;exact this
 have hh:∀r,r<(xU (zW M G) L hc).n->(xU (zW M G) L hc).head r<M.heads.length:=fun r hr=>by rw[<-eH];exact(nJ hr).2
 obtain⟨f1,f2⟩:=Fz (xU (zW M G) L hc) M.heads.length hn hl hh
 have hbig:∀c,c<M.heads.length -> -28208277964652544<=(yX (xU (zW M G) L hc) M.heads.length M.heads.length 0 h0).av c/\(yX (xU (zW M G) L hc) M.heads.length M.heads.length 0 h0).av c<=28208277964652544:=fun c zEV=>by
  obtain⟨n,e⟩:∃n,n+1=M.heads.length:=⟨M.heads.length-1,by omega⟩;have:=(YE (xU (zW M G) L hc) M.heads.length hn hl hh n e).2 c zEV;rw[this.2];have h1:=ZX hc hs M.heads.length c;have h2:=Dv M.heads.length (by have:=hc.heads;omega);omega
 have hN:(xU (zW M G) L hc).n=M.rules.length:=by
  show (dW (zW M G)).length=_;rw[ZD,pi,List.length_range]
 have hrl:∀r,r<M.rules.length->(dW (zW M G)).getD r wX=fC (vB M r) r (G r):=fun r hr=>by rw[ZD];simp[List.getD,hr]
 have hhd:∀r,r<M.rules.length->(xU (zW M G) L hc).head r<M.heads.length/\M.heads.getD ((xU (zW M G) L hc).head r) 0=(vB M r).head:=fun r hr=>by
  show sD (zW M G) r<_/\M.heads.getD (sD (zW M G) r) 0=_;unfold sD;rw[hrl r hr,lJ h];obtain⟨a,ha,e1,e2⟩:=jY h (UZ h hr);show (zJ _ (xG 99 (vB M r).head)).toNat<_/\M.heads.getD (zJ _ (xG 99 (vB M r).head)).toNat 0=_;rw[e1,Int.toNat_natCast];exact⟨ha,e2⟩
 have hdc:∀r c,r<M.rules.length->c<M.heads.length->(decide ((xU (zW M G) L hc).head r=c)=decide ((vB M r).head=M.heads.getD c 0)):=fun r c hr zEV=>decide_eq_decide.2 (by
  obtain⟨k1,k2⟩:=hhd r hr;constructor
  ·intro e;rw[<-k2,e]
  ·intro e;exact aG h k1 zEV (by rw[k2,e]))
 have habv:∀a b,(xU (zW M G) L hc).abv a b=gA (zR (jW M)) a b:=fun a b=>by rw[YZ,BK h]
 have zEL:∀k,k<3->0<=zJ QS (yG k):=fun k hk=>by rw[KQ k (by omega)];omega
 have hco:∀d,d<4->zJ QS (xG 99 d)<0:=fun d hd=>by rw[zBD d hd];decide
 generalize yX (xU (zW M G) L hc) M.heads.length M.heads.length 0 h0=s at *
 have hnum:∀k,k<5->qV L (zJ QS (yG k))=inn k:=fun k hk=>by
  rw[KQ k hk];unfold qV;rw[tg ⟨by omega,by rw[hL];omega⟩,Int.toNat_natCast,hLi k hk]
 have happ:∀r,r<M.rules.length->(xU (zW M G) L hc).app r (fun c=>decide (s.st c=1))=bG (gB M inn s.st s.av) (vB M r):=fun r hr=>by
  show iD (fS (zW M G) r) ⟨L,(List.range (zN (zW M G)).length).map _,[]⟩=_;unfold fS;rw[hrl r hr,XA,lJ h,pi];refine zDU h hr (hF.gr r hr) zEL hco ⟨fun i hi=>?_,fun d hd=>?_⟩
  ·exact hnum i hi
  ·show tH ((List.range M.heads.length).map fun c=>decide (s.st c=1)) (zJ (M.heads.map (xG 99)) (xG 99 d))=_
   obtain⟨a,ha,e1,e2⟩:=jY h hd;rw[X0];unfold gB;simp only;rw[e1,tl (by omega),tl (by omega),tl hd,Int.toNat_natCast];simp
 have hsum:∀r,r<M.rules.length->(xU (zW M G) L hc).sum r s.av=sT (gB M inn s.st s.av) (vB M r):=fun r hr=>by
  show rB ⟨L,[],(List.range (zN (zW M G)).length).map s.av⟩ (fS (zW M G) r).sum=_;unfold fS;rw[hrl r hr,XA,lJ h,pi];refine zD1 (h.rules _ (pV hr)) zEL hco ⟨fun i hi=>hnum i (by omega),fun d hd=>?_⟩;show qV ((List.range M.heads.length).map s.av) (zJ (M.heads.map (xG 99)) (xG 99 d))=_;obtain⟨a,ha,e1,e2⟩:=jY h hd;rw[Zd];unfold gB;simp only;rw[e1,tg ⟨by omega,by omega⟩,tg hd]
 have hbeat:∀r,qL (xU (zW M G) L hc) (fun k=>(xU (zW M G) L hc).app k fun c=>decide (s.st c=1)) r=eO M (gB M inn s.st s.av) r:=fun r=>by
  unfold qL eO;rw[hN];exact V4 _ fun k hk=>by show ((xU (zW M G) L hc).app k (fun c=>decide (s.st c=1))&&_)=_;rw[happ k (ph.1 hk),habv]
 have hstand:∀c,c<M.heads.length->xE (xU (zW M G) L hc) (fun k=>(xU (zW M G) L hc).app k fun c=>decide (s.st c=1)) c=oJ M (gB M inn s.st s.av) (M.heads.getD c 0):=fun c zEV=>by
  unfold xE oJ;rw[hN];refine List.filter_congr fun r hr=>?_;have hr2:=ph.1 hr;show (decide ((xU (zW M G) L hc).head r=c)&&((xU (zW M G) L hc).app r (fun c=>decide (s.st c=1)) && !_))=_;rw[hdc r c hr2 zEV,happ r hr2,hbeat]
 have hv:∀c,c<M.heads.length->M.heads.getD c 0∈M.heads/\(zJ (M.heads.map (xG 99)) (xG 99 (M.heads.getD c 0))).toNat=c:=fun c zEV=>by
  have hm:M.heads.getD c 0∈M.heads:=by simp[List.getD,zEV]
  obtain⟨a,ha,e1,e2⟩:=jY h hm;exact⟨hm,by rw[e1,Int.toNat_natCast];exact aG h ha zEV e2⟩
 refine⟨fun r hr=>?_,fun c zEV=>?_,fun c zEV=>?_,fun c zEV=>?_,fun c zEV=>?_,hbig⟩
 ·rw[f1 r (by rw[hN];exact hr)]
  unfold eA tJ;show (if (xU (zW M G) L hc).app r (fun c=>decide (s.st c=1))=true then _ else _)=_;rw[happ r hr,hbeat]
 ·rw[(f2 c zEV).1]
  unfold rT;rw[hstand c zEV]
 ·rw[(f2 c zEV).2,hstand c zEV]
  refine dB fun r hr=>?_;unfold oJ at hr;exact hsum r (ph.1 (mu.1 hr).1)
 ·unfold gB
  simp only;rw[tl (hv c zEV).1,(hv c zEV).2,mh]
 ·unfold gB
  simp only;rw[tg (hv c zEV).1,(hv c zEV).2]
end Go.Proofs.YtnbpdffdnphbeabGreatDoor
