import Derived.Test.YtnbpdffdnphbeabGreatDoorPFv
import Derived.Test.YtnbpdffdnphbeabGreatDoorMCase
namespace Go.Proofs.YtnbpdffdnphbeabGreatDoor
variable{v:FV}{ls:List zE}{a j:Nat}
theorem kq(A:pB)(H:Nat)(hn:∀r c,r<A.n->A.nm r c->c<H)(hl:∀c,c<H->A.lev c<H)(hh:∀r,r<A.n->A.head r<H) :
 (∀r,r<A.n->(xP A H H 0 h0).vd r=Yv A (fun k=>A.app k fun c=>decide ((xP A H H 0 h0).st c=1)) r) /\
 ∀c,c<H->(xP A H H 0 h0).st c=iF A (fun k=>A.app k fun c=>decide ((xP A H H 0 h0).st c=1)) c/\(xP A H H 0 h0).av c=ZQ (fun r=>A.sum r (xP A H H 0 h0).av) (xL A (fun k=>A.app k fun c=>decide ((xP A H H 0 h0).st c=1)) c):=by
 by_cases h0':H=0
 ·subst h0'
  exact⟨fun r hr=>absurd (hh r hr) (by omega),fun c hc=>absurd hc (by omega)⟩
 ·obtain⟨n,rfl⟩:∃n,H=n+1:=⟨H-1,by omega⟩
  obtain⟨h1,h2⟩:=FU A (n+1) hn hl hh n rfl;generalize xP A (n+1) (n+1) 0 h0=s at *;have hH:∀c,c<n+1->decide (s.st c=1)=lL A (n+1) c:=fun c hc=>by rw[(h2 c hc).1];rfl
  have hon:∀r,r<A.n->XX A n r=A.app r fun c=>decide (s.st c=1):=fun r hr=>by
   have e1:A.app r (fun c=>decide (s.st c=1))=XX A (n+1) r:=A.happ r _ _ hr fun c hc=>hH c (hn r c hr hc);rw[e1];exact(wW A hr (by have:=hl _ (hh r hr);omega) (by omega)).symm
  have zKT:∀c,xL A (XX A n) c=xL A (fun k=>A.app k fun c=>decide (s.st c=1)) c:=fun c=>dJ A fun k hk _=>hon k hk;refine⟨fun r hr=>by rw[h1 r hr];exact Yu A hr fun k hk _=>hon k hk,fun c hc=>⟨by rw[(h2 c hc).1];unfold iF;rw[zKT],?_⟩⟩;rw[<-zKT,(h2 c hc).2];show ZQ (fun r=>A.sum r (lK A n)) (xL A (XX A n) c)=_;refine sZ fun r hr=>?_;obtain⟨k1,k2,-,-⟩:=rR A hr;refine A.hsum r _ _ k1 fun c' hn' => ?_;have h3:=hn r c' k1 hn';have h4:=A.hlev r c' k1 hn';have h5:=hl _ (hh r k1);rw[(h2 c' h3).2];exact((pC A (A.lev c'+1) c' n (by omega) (by omega)).2.trans (pC A (A.lev c'+1) c' (n+1) (by omega) (by omega)).2.symm)
variable {M:yC} {G:Nat->GR}
def Zi(v:FV)(j:Nat):Bs:=if j<3 then Lib.itoa (v.inn j) else if v.inn j=1 then [121,101,115] else [110,111]
def QX(v:FV)(s:Nat):List (List Bs):=(List.range 5).map fun i=>[yK ((i+s)%5),[61],Zi v ((i+s)%5),[59]]
def aU(v:FV)(s:Nat):Bs:=eK (QX v s)
theorem rU(h:yD M)(hv:mG M v)(hj:j<3):0<=v.inn j/\v.inn j<=9998:=by
 have h1:=h.nums j hj;have h2:=hv.num j hj;omega
theorem JP(h:yD M)(hv:mG M v)(hj:j<3):yJ (Zi v j)=3/\kK (Zi v j)=v.inn j:=by
 have hr:=rU h hv hj;unfold Zi;rw[tm hj];exact gT hr.1 (by omega)
theorem fT(hj:¬j<3):(Zi v j=[121,101,115]/\v.inn j=1)\/(Zi v j=[110,111]/\¬v.inn j=1):=by
 unfold Zi;rw[tb hj];by_cases h:v.inn j=1
 ·rw[tm h];exact .inl ⟨rfl,h⟩
 ·rw[tb h];exact .inr ⟨rfl,h⟩
theorem zHW(h:yD M)(hv:mG M v):Wd (Zi v j):=by
 by_cases hj:j<3
 ·have hr:=rU h hv hj
  unfold Zi;rw[tm hj];exact wO 2 (.inr rfl) (nO hr.1 (by omega)).1 (nO hr.1 (by omega)).2.1
 ·rcases fT (v:=v) hj with ⟨e,-⟩|⟨e,-⟩
  ·rw[e];exact wO 1 (.inl rfl) (by decide) (by decide)
  ·rw[e];exact wO 1 (.inl rfl) (by decide) (by decide)
theorem Dk:∀j,j<5->(yK j≠[]/\∀c∈yK j,so c=1):=by decide
theorem zJN(h:yD M)(hv:mG M v)(s:Nat):tw (aU v s)=(QX v s).flatten:=by
 refine zm _ fun ws hws w hw=>?_;obtain⟨i,-,rfl⟩:=p8.1 hws;have hm:(i+s)%5<5:=Nat.mod_lt _ (by decide);simp only[mz,fa,or_false]at hw;rcases hw with rfl|rfl|rfl|rfl
 ·exact wO 1 (.inl rfl) (Dk _ hm).1 (Dk _ hm).2
 ·exact Jp (by decide) (by decide) (by decide) (by decide)
 ·exact zHW h hv
 ·exact Jp (by decide) (by decide) (by decide) (by decide)
theorem D3{P:List PT}:∀ {ws:List Bs} {a:Nat},wH P a ws->∀i,i<ws.length->At P (a+i) (ws.getD i [])
 | [],_,_,i,hi=>absurd hi (by simp)
 | w::r,a,h,0,_=>h.1
 | w::r,a,h,i+1,hi=>by
   have:=D3 h.2 i (by simpa using hi);rw[show a+1+i=a+(i+1) by omega]at this;exact this
theorem BZ(v:FV)(s:Nat):(QX v s).flatten.length=20:=rfl
theorem jf(v:FV)(s i:Nat)(hi:i<5):(QX v s).flatten.getD (i*4) []=yK ((i+s)%5)/\(QX v s).flatten.getD (i*4+1) []=[61]/\(QX v s).flatten.getD (i*4+2) []=Zi v ((i+s)%5)/\(QX v s).flatten.getD (i*4+3) []=[59]:=by
 have h:i=0\/i=1\/i=2\/i=3\/i=4:=by omega
 rcases h with rfl|rfl|rfl|rfl|rfl <;> exact⟨rfl,rfl,rfl,rfl⟩
theorem zEP{P:List PT}{m:Nat}(hm:m%4=0)(hk:(yM P m).k=0)(ha:∀i,i<m->Uc (yM P i) i=true):∀n i,i+n=m->nE P (n+1) i=true:=by
 intro n
 induction n with
 | zero =>
   intro i hi;obtain rfl:i=m:=by omega
   rw[nE,tm ⟨hm,hk⟩]
 | succ n ih =>
   intro i hi;rw[nE];split
   ·rfl
   ·rw[ha i (by omega),ih (i+1) (by omega)];rfl
theorem zEI:∀s,s<5->∀j,j<5->bS (fun i=>(((i+s)%5:Nat):Int)) j 5=1:=by decide
theorem Cf{p q:Nat->Int}(j:Nat):∀m,(∀k,k<m->p k=q k)->bS p j m=bS q j m:=by
 intro m
 induction m with
 | zero=>intro _;rfl
 | succ m ih=>intro h;rw[bS,bS,ih fun k hk=>h k (by omega),h m (by omega)]
theorem zIF(h:yD M)(hv:mG M v){s:Nat}(hs:s<5):∃L,xD (zR (zX M G)) (aU v s)=(L,0)/\L.length=5/\∀j,j<5->L.getD j 0=v.inn j:=by
 have htw:=zJN h hv s;have hA:=CA (aU v s);rw[htw]at hA
 have hAt:∀i,i<20->At (lY (aU v s)) i ((QX v s).flatten.getD i []):=fun i hi=>by
  have:=D3 hA i (by rw[BZ];exact hi);rw[cq]at this;exact this
 have hn:(lY (aU v s)).length=21:=by rw[zF8,htw,BZ]
 have hk0:(yM (lY (aU v s)) 20).k=0:=by have:=zp (aU v s);rw[htw,BZ]at this;exact this
 have hrot:∀k,(k+s)%5<5:=fun k=>Nat.mod_lt _ (by decide)
 have hare:cX (lY (aU v s))=true:=by
  unfold cX;rw[hn];refine zEP (m:=20) (by decide) hk0 (fun i hi=>?_) 20 0 rfl;obtain⟨q,r,hq,hr,rfl⟩:∃q r,q<5/\r<4/\i=q*4+r:=⟨i/4,i%4,by omega,by omega,by omega⟩;obtain⟨g0,g1,g2,g3⟩:=jf v s q hq;have ha:=hAt _ hi;unfold Uc;rw[show (q*4+r)%4=r by omega];have hr4:r=0\/r=1\/r=2\/r=3:=by omega
  rcases hr4 with rfl|rfl|rfl|rfl
  ·rw[l6]at ha ⊢
   rw[g0]at ha;rw[tm rfl,ha.1,mZ (hrot q)];rfl
  ·rw[g1]at ha
   rw[tb (by decide),tm rfl,ha.1,ha.2.1];decide
  ·rw[g2]at ha
   rw[tb (by decide),tb (by decide),tm rfl,ha.1];unfold nZ;rw[ha.1,ha.2.1];by_cases hj:(q+s)%5<3
   ·rw[(JP h hv hj).1];rfl
   ·rcases fT (v:=v) hj with ⟨e,-⟩|⟨e,-⟩ <;> rw[e] <;> decide
  ·rw[g3]at ha
   rw[tb (by decide),tb (by decide),tb (by decide),ha.1,ha.2.1];decide
 have zKA:(aU v s).length<=300:=by
  have hw:∀j,j<5->(Zi v j).length<=4:=fun j _=>by
   by_cases hj:j<3
   ·have hr:=rU h hv hj
    unfold Zi;rw[tm hj];exact(nO hr.1 (by omega)).2.2.1
   ·rcases fT (v:=v) hj with ⟨e,-⟩|⟨e,-⟩ <;> rw[e] <;> decide
  have hi2:∀j,j<5->(yK j).length=2:=by decide
  have hl:∀i,(mP [yK ((i+s)%5),[61],Zi v ((i+s)%5),[59]]).length<=12:=fun i=>by
   have h1:=hw _ (hrot i);have h2:=hi2 _ (hrot i);have hif:∀b:Bs,(if b=[59] then b else 32::b).length<=b.length+1:=fun b=>by split <;> simp
   have h3:=hif [61];have h4:=hif (Zi v ((i+s)%5));have h5:=hif [59];have h6:([61]:Bs).length=1:=rfl;have h7:([59]:Bs).length=1:=rfl;have h8:([10]:Bs).length=1:=rfl;rw[show mP [yK ((i+s)%5),[61],Zi v ((i+s)%5),[59]]=yK ((i+s)%5)++((if ([61]:Bs)=[59] then [61] else 32::[61])++((if Zi v ((i+s)%5)=[59] then Zi v ((i+s)%5) else 32::Zi v ((i+s)%5))++((if ([59]:Bs)=[59] then [59] else 32::[59])++[10]))) from rfl,tl,tl,tl,tl];omega
  unfold aU eK QX;rw[List.flatMap_map,List.length_flatMap];have h0:=hl 0;have h1:=hl 1;have h2:=hl 2;have h3:=hl 3;have h4:=hl 4;simp only[List.range,List.range.loop,dq,List.map_nil,List.sum_cons,List.sum_nil];omega
 have hins:(zR (zX M G)).map zP.name=dW:=Yo M G
 have hfct:∀k,k<5->Qg (aU v s) k=⟨yK ((k+s)%5),decide ((k+s)%5<3),v.inn ((k+s)%5)⟩:=fun k hk=>by
  obtain⟨g0,g1,g2,g3⟩:=jf v s k hk;have a0:=hAt (k*4) (by omega);have a2:=hAt (k*4+2) (by omega);rw[g0]at a0;rw[g2]at a2;unfold Qg qS;rw[a2.1,a2.2.1,a2.2.2,a0.2.1];by_cases hj:(k+s)%5<3
  ·rw[(JP h hv hj).1,(JP h hv hj).2,tm rfl,tu hj]
  ·have hfl:=hv.flag ((k+s)%5) (by omega) (hrot k)
   rw[tq hj];rcases fT (v:=v) hj with ⟨e,e2⟩|⟨e,e2⟩
   ·rw[e,tb (by decide),tm rfl,e2]
   ·rw[e,tb (by decide),tb (by decide),show v.inn ((k+s)%5)=0 by omega]
 have hplc:∀k,k<5->jM (zR (zX M G)) (aU v s) k=(((k+s)%5:Nat):Int):=fun k hk=>by
  unfold jM;rw[hfct k hk,hins];exact Zd _ (hrot k)
 have hl5:=bW M G
 have hgood:DB (zR (zX M G)) (aU v s) 5:=by
  refine⟨fun k hk=>⟨by rw[hplc k hk];omega,?_⟩,fun j hj=>?_⟩
  ·unfold jc
   rw[hplc k hk,hfct k hk,Int.toNat_natCast];show bI _ (kU (zR (zX M G)) ((k+s)%5))=true;rw[dX (hrot k)];unfold bI;by_cases hj:(k+s)%5<3
   ·have hr:=hv.num _ hj
    rw[mY hj];simp only[tu hj,mu];rw[tu hr.1,tu hr.2];rfl
   ·rw[gW (by omega)]
    simp only[tq hj];rfl
  ·rw[hl5]at hj
   rw[Cf j 5 hplc];exact zEI s hs j hj
 have htk:(vK (aU v s) 0).length=4*5:=by have:=lG (aU v s);omega
 obtain⟨L,e1,e2,e3⟩:=(xy (zR (zX M G)) (aU v s) 5 htk).1 hgood;refine⟨L,?_,by rw[e2,hl5],fun j hj=>?_⟩
 ·unfold xD
  rw[tb (by omega),hare,tb (by decide)];exact e1
 ·have hk:((j+(5-s))%5+s)%5=j:=by omega
  have:=e3 ((j+(5-s))%5) j (Nat.mod_lt _ (by decide)) (by rw[hplc _ (Nat.mod_lt _ (by decide)),hk]);rw[this,hfct _ (Nat.mod_lt _ (by decide)),hk]
theorem Dy(h:yD M)(hv:mG M v){s:Nat}(hs:s<5):xD (zR (zX M G)) (aU v s)=((List.range 5).map v.inn,0):=by
 obtain⟨L,e,hl,hj⟩:=zIF (G:=G) h hv hs;rw[e];congr 1
 refine List.ext_getElem (by simp[hl]) fun i h1 h2=>?_;have:=hj i (by omega);rw[pe,p9 h1]at this;simpa using this
theorem je(h:yD M)(hv:mG M v){s:Nat}(hs:s<5):(aU v s).length<=300:=by
 have e:=Dy (G:=fun _=>⟨[],0,0,0⟩) h hv hs;unfold xD at e;by_cases hl:300<(aU v s).length
 ·rw[tm hl]at e
  exact absurd (congrArg Prod.snd e) (show ¬((1:Int)=0) by decide)
 ·omega
variable {M:yC} {G:Nat->GR}
def Je(M:yC)(v:FV)(r:Nat):Bool:=(List.range M.rules.length).any fun k=>nF v (vU M k)&&gA (zS (kT M)) k r
def aE(M:yC)(v:FV)(h:Nat):List Nat:=(List.range M.rules.length).filter fun r=>decide ((vU M r).head=h)&&(nF v (vU M r) && !Je M v r)
structure zAX(M:yC)(u:FV)(st:Nat->Int):Prop where
 kst:∀c,c<M.heads.length->st c=nM (aE M u (M.heads.getD c 0))
 has:∀c,c<M.heads.length->u.has (M.heads.getD c 0)=decide (st c=1)
theorem QM(h:yD M){b:Nat}(ha:a<M.heads.length)(hb:b<M.heads.length)(e:M.heads.getD a 0=M.heads.getD b 0):a=b:=by
 have hn:M.heads.Nodup:=by rw[h.heads];exact dY _
 have h1:=List.pairwise_iff_getElem.1 hn;simp only[List.getD,p9 ha,p9 hb,Option.getD_some]at e;rcases Nat.lt_trichotomy a b with h2|h2|h2
 ·exact absurd e (h1 a b ha hb h2)
 ·exact h2
 ·exact absurd e.symm (h1 b a hb ha h2)
theorem V4(h:yD M){x:Nat}(hx:x∈M.heads):x<4:=by
 rw[h.heads]at hx;rcases(pI (M.rules.map vP.head) [] (x:=x)).1 hx with q|q
 ·cases q
 ·obtain⟨r,hr,rfl⟩:=p8.1 q;exact(h.rules r hr).head
theorem aR(h:yD M){d:Nat}(hd:d∈M.heads):∃a,a<M.heads.length/\zI (M.heads.map (yZ 99)) (yZ 99 d)=(a:Int)/\M.heads.getD a 0=d:=by
 obtain⟨a,ha,e1,e2⟩:=fW (l:=M.heads.map (yZ 99)) (p8.2 ⟨d,hd,rfl⟩);rw[pi]at ha;refine⟨a,ha,e1,?_⟩;rw[pe,List.getElem?_map,p9 ha]at e2;have e3:M.heads[a]=d:=XD _ (V4 h (cx ha)) d (V4 h hd) e2;simp[List.getD,ha,e3]
theorem Fe(h:yD M){r:Nat}(hr:r<M.rules.length):(vU M r).head∈M.heads:=by
 rw[h.heads];exact(pI (M.rules.map vP.head) []).2 (.inr (p8.2 ⟨_,bL hr,rfl⟩))
theorem Co{f g:Nat->Bool}(l:List Nat)(h:∀x∈l,f x=g x):l.any f=l.any g:=by
 induction l with
 | nil=>rfl
 | cons x r ih=>rw[cr,cr,h x (by simp),ih fun y hy=>h y (by simp[hy])]
theorem Cm{b:Nat}(hh:JY (qK (zO ls) ls gZ) a b):a<(zO ls).length/\b<(zO ls).length/\True:=by
 obtain⟨ha,hb,hg⟩:=hh;rw[YU _ _ ha hb _ yY,BE,lu]at hg;obtain⟨x,-,hx⟩:=md.1 hg;unfold zER at hx;rw[pj,pj,lq,pt,pt]at hx;obtain⟨-,e1,e2⟩:=hx;refine⟨by have:=(jS (zO ls) x.conc).2;omega,?_,trivial⟩;rcases e2 with e2|e2
 ·obtain⟨y,-,hy⟩:=md.1 e2
  have e3:=cb hy;have:=(jS (zO ls) y.name).2;omega
 ·obtain⟨y,-,hy⟩:=md.1 e2
  rw[pj]at hy;have e3:=cb hy.2;have:=(jS (zO ls) y.name).2;omega
theorem qf(h:vJ ls)(ha:a<(zO ls).length):dD (qK (zO ls) ls gZ) a<(zO ls).length:=by
 have h8:=h.heads;have hl:(qK (zO ls) ls gZ).length=64:=by rw[fL];exact yY
 have harr:=fun {a b:Nat} (hh:JY (qK (zO ls) ls gZ) a b)=>Cm hh;have hr:=h.nam;generalize qK (zO ls) ls gZ=G at *;generalize (zO ls).length=H at *;obtain⟨H,rfl⟩:∃k,H=k+1:=⟨H-1,by omega⟩
 have top:∀a,a<8->gB G (H+1) a<=H:=by
  intro a ha8;have hle:=QB G (H+1) a;rcases mc (gB G (H+1) a) (H+1) with h1|h1
  ·omega
  ·exfalso
   obtain⟨x,-,hx8,hx⟩:=Vk G (H+1) a ha8 (by omega)
   have zKF:∀i,i<=H+1->x i<H+1:=fun i hi=>by
    rcases Nat.eq_zero_or_pos i with h0|h0
    ·subst h0;exact(harr (hx 0 (by omega))).1
    ·have:=(harr (hx (i-1) (by omega))).2.1
     rwa [show i-1+1=i by omega]at this
   obtain⟨i,j,h1,h2,h3⟩:=K1 (H+1) x zKF;have ht:=VT hx (j-i-1) i (by omega);rw[show i+(j-i-1)+1=j by omega,<-h3]at ht;have:qP G=true:=(wU hl).2 ⟨x i,hx8 i (by omega),ht⟩;rw[hr]at this;cases this
 have still:∀d a,a<8->gB G (H+1+d) a=gB G H a:=by
  intro d
  induction d with
  | zero=>intro a ha8;exact(Xb G H a (top a ha8)).symm
  | succ d ih =>
    intro a ha8;rw[show H+1+(d+1)=(H+1+d)+1 by omega,gB];have e:sJ (gA G a) (gB G (H+1+d)) 8 0 0=sJ (gA G a) (gB G H) 8 0 0:=Vf 8 0 0 fun z _ hz=>⟨rfl,fun _=>ih z (by omega)⟩;rw[e];exact(Xb G H a (top a ha8)).symm
 unfold dD;rcases mc 7 (H+1) with h1|h1
 ·have:=QB G 7 a;omega
 ·have:=still (7-(H+1)) a (by omega)
  rw[show H+1+(7-(H+1))=7 by omega]at this;rw[this];have:=QB G H a;omega
def QK(M:yC)(inn:Nat->Int)(st av:Nat->Int):FV:=⟨inn,fun d=>decide (d∈M.heads)&&decide (st (zI (M.heads.map (yZ 99)) (yZ 99 d)).toNat=1),fun d=>if d∈M.heads then av (zI (M.heads.map (yZ 99)) (yZ 99 d)).toNat else 0⟩
theorem zHQ(h:yD M)(hF:zK0 M G){L:List Int}{inn:Nat->Int}(hL:L.length=5)(hLi:∀j,j<5->L.getD j 0=inn j) :
 zAX M (QK M inn (xP (vT (zX M G) L hF.calm) M.heads.length M.heads.length 0 h0).st (xP (vT (zX M G) L hF.calm) M.heads.length M.heads.length 0 h0).av) (xP (vT (zX M G) L hF.calm) M.heads.length M.heads.length 0 h0).st:=by
 have hc:=hF.calm;have eH:(zO (zX M G)).length=M.heads.length:=by rw[kR h,pi]
 have hn:∀r c,r<(vT (zX M G) L hc).n->(vT (zX M G) L hc).nm r c->c<M.heads.length:=fun r c hr hm=>by rw[<-eH];exact(Bl hc hr hm).1
 have hl:∀c,c<M.heads.length->(vT (zX M G) L hc).lev c<M.heads.length:=fun c hcc=>by have:=qf hc (a:=c) (by omega);rw[eH]at this;exact this
 have hh:∀r,r<(vT (zX M G) L hc).n->(vT (zX M G) L hc).head r<M.heads.length:=fun r hr=>by rw[<-eH];exact(sE hr).2
 obtain⟨-,f2⟩:=kq (vT (zX M G) L hc) M.heads.length hn hl hh
 have hN:(vT (zX M G) L hc).n=M.rules.length:=by
  show (fG (zX M G)).length=_;rw[Xv,pi,List.length_range]
 have hrl:∀r,r<M.rules.length->(fG (zX M G)).getD r Yc=gK (vU M r) r (G r):=fun r hr=>by rw[Xv];simp[List.getD,hr]
 have hhd:∀r,r<M.rules.length->(vT (zX M G) L hc).head r<M.heads.length/\M.heads.getD ((vT (zX M G) L hc).head r) 0=(vU M r).head:=fun r hr=>by
  show iL (zX M G) r<_/\M.heads.getD (iL (zX M G) r) 0=_;unfold iL;rw[hrl r hr,kR h];obtain⟨a,ha,e1,e2⟩:=aR h (Fe h hr);show (zI _ (yZ 99 (vU M r).head)).toNat<_/\M.heads.getD (zI _ (yZ 99 (vU M r).head)).toNat 0=_;rw[e1,Int.toNat_natCast];exact⟨ha,e2⟩
 have hdc:∀r c,r<M.rules.length->c<M.heads.length->(decide ((vT (zX M G) L hc).head r=c)=decide ((vU M r).head=M.heads.getD c 0)):=fun r c hr hcc=>decide_eq_decide.2 (by
  obtain⟨k1,k2⟩:=hhd r hr;constructor
  ·intro e;rw[<-k2,e]
  ·intro e;exact QM h k1 hcc (by rw[k2,e]))
 have habv:∀a b,(vT (zX M G) L hc).abv a b=gA (zS (kT M)) a b:=fun a b=>by rw[Jj,QR h]
 have zKF:∀k,k<3->0<=zI dW (yK k):=fun k hk=>by rw[Zd k (by omega)];omega
 have hco:∀d,d<4->zI dW (yZ 99 d)<0:=fun d hd=>by rw[B9 d hd];decide
 generalize xP (vT (zX M G) L hc) M.heads.length M.heads.length 0 h0=s at *
 have hnum:∀k,k<5->kF L (zI dW (yK k))=inn k:=fun k hk=>by
  rw[Zd k hk];unfold kF;rw[tm ⟨by omega,by rw[hL];omega⟩,Int.toNat_natCast,hLi k hk]
 have happ:∀r,r<M.rules.length->(vT (zX M G) L hc).app r (fun c=>decide (s.st c=1))=nF (QK M inn s.st s.av) (vU M r):=fun r hr=>by
  show qU (eV (zX M G) r) ⟨L,(List.range (zO (zX M G)).length).map _,[]⟩=_;unfold eV;rw[hrl r hr,Yo,kR h,pi];refine XG h hr (hF.gr r hr) zKF hco ⟨fun i hi=>?_,fun d hd=>?_⟩
  ·exact hnum i hi
  ·show kP ((List.range M.heads.length).map fun c=>decide (s.st c=1)) (zI (M.heads.map (yZ 99)) (yZ 99 d))=_
   obtain⟨a,ha,e1,e2⟩:=aR h hd;rw[JF];unfold QK;simp only;rw[e1,tu (by omega),tu (by omega),tu hd,Int.toNat_natCast];simp
 have hbeat:∀r,kJ (vT (zX M G) L hc) (fun k=>(vT (zX M G) L hc).app k fun c=>decide (s.st c=1)) r=Je M (QK M inn s.st s.av) r:=fun r=>by
  unfold kJ Je;rw[hN];exact Co _ fun k hk=>by show ((vT (zX M G) L hc).app k (fun c=>decide (s.st c=1))&&_)=_;rw[happ k (pq.1 hk),habv]
 have hstand:∀c,c<M.heads.length->xL (vT (zX M G) L hc) (fun k=>(vT (zX M G) L hc).app k fun c=>decide (s.st c=1)) c=aE M (QK M inn s.st s.av) (M.heads.getD c 0):=fun c hcc=>by
  unfold xL aE;rw[hN];refine List.filter_congr fun r hr=>?_;have hr2:=pq.1 hr;show (decide ((vT (zX M G) L hc).head r=c)&&((vT (zX M G) L hc).app r (fun c=>decide (s.st c=1)) && !_))=_;rw[hdc r c hr2 hcc,happ r hr2,hbeat]
 have hv:∀c,c<M.heads.length->M.heads.getD c 0∈M.heads/\(zI (M.heads.map (yZ 99)) (yZ 99 (M.heads.getD c 0))).toNat=c:=fun c hcc=>by
  have hm:M.heads.getD c 0∈M.heads:=by simp[List.getD,hcc]
  obtain⟨a,ha,e1,e2⟩:=aR h hm;exact⟨hm,by rw[e1,Int.toNat_natCast];exact QM h ha hcc e2⟩
 refine⟨fun c hcc=>?_,fun c hcc=>?_⟩
 ·rw[(f2 c hcc).1]
  unfold iF;rw[hstand c hcc]
 ·unfold QK
  simp only;rw[tu (hv c hcc).1,(hv c hcc).2,mu]
def Zw(x:zP):Prop:=0<=x.low/\x.high<=9999
theorem qs(ls:List zE):∀acc,(∀x∈acc,Zw x)->(∀x∈ls,fX x)->∀x∈cR ls acc,Zw x:=by
 induction ls with
 | nil=>intro acc h _;exact h
 | cons y r ih =>
   intro acc h hg;rw[cR];refine ih _ ?_ (fun x hx=>hg x (by simp[hx]));split
   ·intro x hx
    rcases pu.1 hx with hx|hx
    ·exact h x hx
    ·rw[pw.1 hx]
     have gy:=hg y (by simp);unfold mC Zw;split
     ·exact⟨gy.lo0,gy.hi1⟩
     ·exact⟨l9 _,show (0:Int)<=9999 by decide⟩
   ·exact h
theorem zDJ(hg:∀x∈ls,fX x)(i:Nat):Zw ((zR ls).getD i eX):=by
 have h:=qs ls [] (by simp) hg;by_cases hi:i<(zR ls).length
 ·have:(zR ls).getD i eX∈zR ls:=by rw[pe,p9 hi];exact cx hi
  exact h _ this
 ·rw[pe,List.getElem?_eq_none (by omega)]
  exact⟨l9 _,show (0:Int)<=9999 by decide⟩
def zIM(l:List Int):Prop:=∀j,0<=l.getD j 0/\l.getD j 0<=9999
theorem zIM.set{l:List Int}(h:zIM l)(i:Nat){x:Int}(hx:0<=x/\x<=9999):zIM (l.set i x):=fun j=>by
 simp only[List.getD,List.getElem?_set];by_cases e:i=j
 ·rw[tm e]
  by_cases hl:i<l.length
  ·rw[tm hl];exact hx
  ·rw[tb hl];exact⟨l9 _,show (0:Int)<=9999 by decide⟩
 ·rw[tb e];exact h j
theorem BU{f:Jm}{x:zP}(hx:Zw x)(hf:f.isNum=false->f.value=0\/f.value=1)(h:bI f x=true):0<=f.value/\f.value<=9999:=by
 unfold bI at h;obtain⟨h1,h2⟩:=hx;split at h
 ·have:=hf (by simpa using h)
  omega
 ·simp only[pj,pt]at h
  omega
theorem Gl(n v:PT):(qS n v).isNum=false->(qS n v).value=0\/(qS n v).value=1:=by
 unfold qS;split
 ·intro h;exact absurd h (by simp)
 ·intro _
  show (if v.s=[121,101,115] then (1:Int) else 0)=0\/(if v.s=[121,101,115] then (1:Int) else 0)=1;split
  ·exact .inr rfl
  ·exact .inl rfl
theorem KM(P:List PT)(I:List zP)(hI:∀i,Zw (I.getD i eX)):∀n i st st',zIM st.1->tI P I n i st=some st'->zIM st'.1:=by
 intro n
 induction n with
 | zero=>intro i st st' h e;rw[tI]at e;rw[<-dn e];exact h
 | succ n ih =>
   intro i st st' h e;rw[tI]at e;split at e
   ·split at e
    ·cases e
    ·split at e
     ·cases e
     ·split at e
      ·cases e
      ·rename_i hft
       have hft':bI (qS (yM P (i*4)) (yM P (i*4+2))) (I.getD (zI (I.map zP.name) (qS (yM P (i*4)) (yM P (i*4+2))).name).toNat eX)=true:=by
        cases hz:bI (qS (yM P (i*4)) (yM P (i*4+2))) (I.getD (zI (I.map zP.name) (qS (yM P (i*4)) (yM P (i*4+2))).name).toNat eX) with
        | true=>rfl
        | false=>exact absurd hz hft
       exact ih _ _ _ (h.set _ (BU (hI _) (Gl _ _) hft')) e
   ·rw[<-dn e];exact h
theorem Cg(hg:∀x∈ls,fX x)(f:Bs):ZL ls (xD (zR ls) f).1:=by
 refine⟨fun x hx _ p hp=>?_,fun i=>?_⟩
 ·obtain⟨j,hj,rfl⟩:=ct hp
  have:=(hg x hx).sums j hj;unfold XV at this;rw[pe,p9 hj]at this;exact this
 ·have key:zIM (xD (zR ls) f).1:=by
   have h0:zIM []:=fun j=>⟨l9 _,show (0:Int)<=9999 by decide⟩;unfold xD;split
   ·exact h0
   ·split
    ·exact h0
    ·split
     ·exact h0
     ·rename_i st zKT
      split
      ·refine KM _ _ (zDJ hg) _ _ _ _ ?_ zKT
       intro j;simp only[List.getD,cf];split <;> exact⟨l9 _,show (0:Int)<=9999 by decide⟩
      ·exact h0
  have:=key i;omega
open Go.RowKit
def zIJ(n:Nat)(f:Nat->Bs)(g h:Nat->Int):List Value:=(List.range n).flatMap fun i=>[.string ⟨(f i).toArray⟩,.int .i64 (g i),.int .i64 (h i)]
theorem BM{f g:Nat->List Value}(l:List Nat)(h:∀i∈l,f i=g i):l.flatMap f=l.flatMap g:=by
 induction l with
 | nil=>rfl
 | cons x r ih=>rw[bf,bf,h x (by simp),ih fun i hi=>h i (by simp[hi])]
theorem zAL{w:World}{a:Option Addr}{n:Nat}{f:Nat->Bs}{g k:Nat->Int}(h:kS w a (zIJ n f g k)){i:Nat}(hi:i<n):∃G,a=some ⟨G,0,none⟩/\w.cell? ⟨G,i*3,none⟩=some (.string ⟨(f i).toArray⟩)/\w.cell? ⟨G,i*3+1,none⟩=some (.int .i64 (g i))/\w.cell? ⟨G,i*3+2,none⟩=some (.int .i64 (k i)):=by
 have q:=fun r (hr:r<3)=>zN (fun i=>[Value.string ⟨(f i).toArray⟩,.int .i64 (g i),.int .i64 (k i)]) 3 (fun _=>rfl) 0 (List.range n) i r (by simpa using hi) hr;rw[cG n i hi]at q;obtain⟨G,e,c0⟩:=h.at (q 0 (by decide));obtain⟨G',e',c1⟩:=h.at (q 1 (by decide));obtain⟨G'',e'',c2⟩:=h.at (q 2 (by decide));obtain rfl:G=G':=by rw[e]at e';simpa using e'
 obtain rfl:G=G'':=by rw[e]at e'';simpa using e''
 exact⟨G,e,c0,c1,c2⟩
end Go.Proofs.YtnbpdffdnphbeabGreatDoor
