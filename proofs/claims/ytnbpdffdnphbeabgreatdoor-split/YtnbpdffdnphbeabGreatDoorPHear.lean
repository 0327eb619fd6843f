import Derived.Test.YtnbpdffdnphbeabGreatDoorPFv
import Derived.Test.YtnbpdffdnphbeabGreatDoorMCase
namespace Go.Proofs.YtnbpdffdnphbeabGreatDoor
variable{v:FV}{ls:List zE}{j a:Nat}
theorem jy(A:pA)(H:Nat)(hn:∀r c,r<A.n->A.nm r c->c<H)(hl:∀c,c<H->A.lev c<H)(hh:∀r,r<A.n->A.head r<H) :
 (∀r,r<A.n->(xH A H H 0 h0).vd r=ZG A (fun k=>A.app k fun c=>decide ((xH A H H 0 h0).st c=1)) r) /\
 ∀c,c<H->(xH A H H 0 h0).st c=iQ A (fun k=>A.app k fun c=>decide ((xH A H H 0 h0).st c=1)) c/\(xH A H H 0 h0).av c=wY (fun r=>A.sum r (xH A H H 0 h0).av) (xN A (fun k=>A.app k fun c=>decide ((xH A H H 0 h0).st c=1)) c):=by
 by_cases h0':H=0
 ·subst h0'
  exact⟨fun r hr=>absurd (hh r hr) (by omega),fun c hc=>absurd hc (by omega)⟩
 ·obtain⟨n,rfl⟩:∃n,H=n+1:=⟨H-1,by omega⟩
  obtain⟨h1,h2⟩:=QU A (n+1) hn hl hh n rfl;generalize xH A (n+1) (n+1) 0 h0=s at *;have hH:∀c,c<n+1->decide (s.st c=1)=lN A (n+1) c:=fun c hc=>by rw[(h2 c hc).1];rfl
  have hon:∀r,r<A.n->Qh A n r=A.app r fun c=>decide (s.st c=1):=fun r hr=>by
   have e1:A.app r (fun c=>decide (s.st c=1))=Qh A (n+1) r:=A.happ r _ _ hr fun c hc=>hH c (hn r c hr hc);rw[e1];exact(Zf A hr (by have:=hl _ (hh r hr);omega) (by omega)).symm
  have zLO:∀c,xN A (Qh A n) c=xN A (fun k=>A.app k fun c=>decide (s.st c=1)) c:=fun c=>dU A fun k hk _=>hon k hk;refine⟨fun r hr=>by rw[h1 r hr];exact Y4 A hr fun k hk _=>hon k hk,fun c hc=>⟨by rw[(h2 c hc).1];unfold iQ;rw[zLO],?_⟩⟩;rw[<-zLO,(h2 c hc).2];show wY (fun r=>A.sum r (lL A n)) (xN A (Qh A n) c)=_;refine gU fun r hr=>?_;obtain⟨k1,k2,-,-⟩:=rW A hr;refine A.hsum r _ _ k1 fun c' hn' => ?_;have h3:=hn r c' k1 hn';have h4:=A.hlev r c' k1 hn';have h5:=hl _ (hh r k1);rw[(h2 c' h3).2];exact((pB A (A.lev c'+1) c' n (by omega) (by omega)).2.trans (pB A (A.lev c'+1) c' (n+1) (by omega) (by omega)).2.symm)
variable {M:yC} {G:Nat->GR}
def Zs(v:FV)(j:Nat):Bs:=if j<3 then Lib.itoa (v.inn j) else if v.inn j=1 then [121,101,115] else [110,111]
def Jh(v:FV)(s:Nat):List (List Bs):=(List.range 5).map fun i=>[yD ((i+s)%5),[61],Zs v ((i+s)%5),[59]]
def eO(v:FV)(s:Nat):Bs:=wU (Jh v s)
theorem rZ(h:yI M)(hv:lW M v)(hj:j<3):0<=v.inn j/\v.inn j<=9998:=by
 have h1:=h.nums j hj;have h2:=hv.num j hj;omega
theorem JU(h:yI M)(hv:lW M v)(hj:j<3):yJ (Zs v j)=3/\kL (Zs v j)=v.inn j:=by
 have hr:=rZ h hv hj;unfold Zs;rw[tl hj];exact nF hr.1 (by omega)
theorem gJ(hj:¬j<3):(Zs v j=[121,101,115]/\v.inn j=1)\/(Zs v j=[110,111]/\¬v.inn j=1):=by
 unfold Zs;rw[tb hj];by_cases h:v.inn j=1
 ·rw[tl h];exact .inl ⟨rfl,h⟩
 ·rw[tb h];exact .inr ⟨rfl,h⟩
theorem zIR(h:yI M)(hv:lW M v):Wd (Zs v j):=by
 by_cases hj:j<3
 ·have hr:=rZ h hv hj
  unfold Zs;rw[tl hj];exact wX 2 (.inr rfl) (nW hr.1 (by omega)).1 (nW hr.1 (by omega)).2.1
 ·rcases gJ (v:=v) hj with ⟨e,-⟩|⟨e,-⟩
  ·rw[e];exact wX 1 (.inl rfl) (by decide) (by decide)
  ·rw[e];exact wX 1 (.inl rfl) (by decide) (by decide)
theorem D2:∀j,j<5->(yD j≠[]/\∀c∈yD j,so c=1):=by decide
theorem zKG(h:yI M)(hv:lW M v)(s:Nat):tw (eO v s)=(Jh v s).flatten:=by
 refine yw _ fun ws hws w hw=>?_;obtain⟨i,-,rfl⟩:=p9.1 hws;have hm:(i+s)%5<5:=Nat.mod_lt _ (by decide);simp only[l6,ff,or_false]at hw;rcases hw with rfl|rfl|rfl|rfl
 ·exact wX 1 (.inl rfl) (D2 _ hm).1 (D2 _ hm).2
 ·exact Jx (by decide) (by decide) (by decide) (by decide)
 ·exact zIR h hv
 ·exact Jx (by decide) (by decide) (by decide) (by decide)
theorem DM{P:List PT}:∀ {ws:List Bs} {a:Nat},wT P a ws->∀i,i<ws.length->At P (a+i) (ws.getD i [])
 | [],_,_,i,hi=>absurd hi (by simp)
 | w::r,a,h,0,_=>h.1
 | w::r,a,h,i+1,hi=>by
   have:=DM h.2 i (by simpa using hi);rw[show a+1+i=a+(i+1) by omega]at this;exact this
theorem Cq(v:FV)(s:Nat):(Jh v s).flatten.length=20:=rfl
theorem zAG(v:FV)(s i:Nat)(hi:i<5):(Jh v s).flatten.getD (i*4) []=yD ((i+s)%5)/\(Jh v s).flatten.getD (i*4+1) []=[61]/\(Jh v s).flatten.getD (i*4+2) []=Zs v ((i+s)%5)/\(Jh v s).flatten.getD (i*4+3) []=[59]:=by
 have h:i=0\/i=1\/i=2\/i=3\/i=4:=by omega
 rcases h with rfl|rfl|rfl|rfl|rfl <;> exact⟨rfl,rfl,rfl,rfl⟩
theorem zFL{P:List PT}{m:Nat}(hm:m%4=0)(hk:(yK P m).k=0)(ha:∀i,i<m->Ul (yK P i) i=true):∀n i,i+n=m->nO P (n+1) i=true:=by
 intro n
 induction n with
 | zero =>
   intro i hi;obtain rfl:i=m:=by omega
   rw[nO,tl ⟨hm,hk⟩]
 | succ n ih =>
   intro i hi;rw[nO];split
   ·rfl
   ·rw[ha i (by omega),ih (i+1) (by omega)];rfl
theorem zFE:∀s,s<5->∀j,j<5->bX (fun i=>(((i+s)%5:Nat):Int)) j 5=1:=by decide
theorem Cw{p q:Nat->Int}(j:Nat):∀m,(∀k,k<m->p k=q k)->bX p j m=bX q j m:=by
 intro m
 induction m with
 | zero=>intro _;rfl
 | succ m ih=>intro h;rw[bX,bX,ih fun k hk=>h k (by omega),h m (by omega)]
theorem zJA(h:yI M)(hv:lW M v){s:Nat}(hs:s<5):∃L,xD (zX (yA M G)) (eO v s)=(L,0)/\L.length=5/\∀j,j<5->L.getD j 0=v.inn j:=by
 have htw:=zKG h hv s;have hA:=CO (eO v s);rw[htw]at hA
 have hAt:∀i,i<20->At (bB (eO v s)) i ((Jh v s).flatten.getD i []):=fun i hi=>by
  have:=DM hA i (by rw[Cq];exact hi);rw[cx]at this;exact this
 have hn:(bB (eO v s)).length=21:=by rw[zG3,htw,Cq]
 have hk0:(yK (bB (eO v s)) 20).k=0:=by have:=yz (eO v s);rw[htw,Cq]at this;exact this
 have hrot:∀k,(k+s)%5<5:=fun k=>Nat.mod_lt _ (by decide)
 have hare:dG (bB (eO v s))=true:=by
  unfold dG;rw[hn];refine zFL (m:=20) (by decide) hk0 (fun i hi=>?_) 20 0 rfl;obtain⟨q,r,hq,hr,rfl⟩:∃q r,q<5/\r<4/\i=q*4+r:=⟨i/4,i%4,by omega,by omega,by omega⟩;obtain⟨g0,g1,g2,g3⟩:=zAG v s q hq;have ha:=hAt _ hi;unfold Ul;rw[show (q*4+r)%4=r by omega];have hr4:r=0\/r=1\/r=2\/r=3:=by omega
  rcases hr4 with rfl|rfl|rfl|rfl
  ·rw[l9]at ha ⊢
   rw[g0]at ha;rw[tl rfl,ha.1,lE (hrot q)];rfl
  ·rw[g1]at ha
   rw[tb (by decide),tl rfl,ha.1,ha.2.1];decide
  ·rw[g2]at ha
   rw[tb (by decide),tb (by decide),tl rfl,ha.1];unfold oC;rw[ha.1,ha.2.1];by_cases hj:(q+s)%5<3
   ·rw[(JU h hv hj).1];rfl
   ·rcases gJ (v:=v) hj with ⟨e,-⟩|⟨e,-⟩ <;> rw[e] <;> decide
  ·rw[g3]at ha
   rw[tb (by decide),tb (by decide),tb (by decide),ha.1,ha.2.1];decide
 have zL6:(eO v s).length<=300:=by
  have hw:∀j,j<5->(Zs v j).length<=4:=fun j _=>by
   by_cases hj:j<3
   ·have hr:=rZ h hv hj
    unfold Zs;rw[tl hj];exact(nW hr.1 (by omega)).2.2.1
   ·rcases gJ (v:=v) hj with ⟨e,-⟩|⟨e,-⟩ <;> rw[e] <;> decide
  have hi2:∀j,j<5->(yD j).length=2:=by decide
  have hl:∀i,(mU [yD ((i+s)%5),[61],Zs v ((i+s)%5),[59]]).length<=12:=fun i=>by
   have h1:=hw _ (hrot i);have h2:=hi2 _ (hrot i);have hif:∀b:Bs,(if b=[59] then b else 32::b).length<=b.length+1:=fun b=>by split <;> simp
   have h3:=hif [61];have h4:=hif (Zs v ((i+s)%5));have h5:=hif [59];have h6:([61]:Bs).length=1:=rfl;have h7:([59]:Bs).length=1:=rfl;have h8:([10]:Bs).length=1:=rfl;rw[show mU [yD ((i+s)%5),[61],Zs v ((i+s)%5),[59]]=yD ((i+s)%5)++((if ([61]:Bs)=[59] then [61] else 32::[61])++((if Zs v ((i+s)%5)=[59] then Zs v ((i+s)%5) else 32::Zs v ((i+s)%5))++((if ([59]:Bs)=[59] then [59] else 32::[59])++[10]))) from rfl,tm,tm,tm,tm];omega
  unfold eO wU Jh;rw[List.flatMap_map,List.length_flatMap];have h0:=hl 0;have h1:=hl 1;have h2:=hl 2;have h3:=hl 3;have h4:=hl 4;simp only[List.range,List.range.loop,da,List.map_nil,List.sum_cons,List.sum_nil];omega
 have hins:(zX (yA M G)).map zQ.name=oT:=Yz M G
 have hfct:∀k,k<5->Qq (eO v s) k=⟨yD ((k+s)%5),decide ((k+s)%5<3),v.inn ((k+s)%5)⟩:=fun k hk=>by
  obtain⟨g0,g1,g2,g3⟩:=zAG v s k hk;have a0:=hAt (k*4) (by omega);have a2:=hAt (k*4+2) (by omega);rw[g0]at a0;rw[g2]at a2;unfold Qq qV;rw[a2.1,a2.2.1,a2.2.2,a0.2.1];by_cases hj:(k+s)%5<3
  ·rw[(JU h hv hj).1,(JU h hv hj).2,tl rfl,tu hj]
  ·have hfl:=hv.flag ((k+s)%5) (by omega) (hrot k)
   rw[ty hj];rcases gJ (v:=v) hj with ⟨e,e2⟩|⟨e,e2⟩
   ·rw[e,tb (by decide),tl rfl,e2]
   ·rw[e,tb (by decide),tb (by decide),show v.inn ((k+s)%5)=0 by omega]
 have hplc:∀k,k<5->jK (zX (yA M G)) (eO v s) k=(((k+s)%5:Nat):Int):=fun k hk=>by
  unfold jK;rw[hfct k hk,hins];exact Xu _ (hrot k)
 have hl5:=sH M G
 have hgood:DU (zX (yA M G)) (eO v s) 5:=by
  refine⟨fun k hk=>⟨by rw[hplc k hk];omega,?_⟩,fun j hj=>?_⟩
  ·unfold zAD
   rw[hplc k hk,hfct k hk,Int.toNat_natCast];show bO _ (kT (zX (yA M G)) ((k+s)%5))=true;rw[Zn (hrot k)];unfold bO;by_cases hj:(k+s)%5<3
   ·have hr:=hv.num _ hj
    rw[fW hj];simp only[tu hj,mz];rw[tu hr.1,tu hr.2];rfl
   ·rw[aX (by omega)]
    simp only[ty hj];rfl
  ·rw[hl5]at hj
   rw[Cw j 5 hplc];exact zFE s hs j hj
 have htk:(vM (eO v s) 0).length=4*5:=by have:=lH (eO v s);omega
 obtain⟨L,e1,e2,e3⟩:=(uk (zX (yA M G)) (eO v s) 5 htk).1 hgood;refine⟨L,?_,by rw[e2,hl5],fun j hj=>?_⟩
 ·unfold xD
  rw[tb (by omega),hare,tb (by decide)];exact e1
 ·have hk:((j+(5-s))%5+s)%5=j:=by omega
  have:=e3 ((j+(5-s))%5) j (Nat.mod_lt _ (by decide)) (by rw[hplc _ (Nat.mod_lt _ (by decide)),hk]);rw[this,hfct _ (Nat.mod_lt _ (by decide)),hk]
theorem DI(h:yI M)(hv:lW M v){s:Nat}(hs:s<5):xD (zX (yA M G)) (eO v s)=((List.range 5).map v.inn,0):=by
 obtain⟨L,e,hl,hj⟩:=zJA (G:=G) h hv hs;rw[e];congr 1
 refine List.ext_getElem (by simp[hl]) fun i h1 h2=>?_;have:=hj i (by omega);rw[pd,pb h1]at this;simpa using this
theorem zAF(h:yI M)(hv:lW M v){s:Nat}(hs:s<5):(eO v s).length<=300:=by
 have e:=DI (G:=fun _=>⟨[],0,0,0⟩) h hv hs;unfold xD at e;by_cases hl:300<(eO v s).length
 ·rw[tl hl]at e
  exact absurd (congrArg Prod.snd e) (show ¬((1:Int)=0) by decide)
 ·omega
variable {M:yC} {G:Nat->GR}
def XM(M:yC)(v:FV)(r:Nat):Bool:=(List.range M.rules.length).any fun k=>bJ v (vO M k)&&gA (yB (nX M)) k r
def zG1(M:yC)(v:FV)(r:Nat):Int:=if bJ v (vO M r) then (if XM M v r then 1 else 2) else 0
def aL(M:yC)(v:FV)(h:Nat):List Nat:=(List.range M.rules.length).filter fun r=>decide ((vO M r).head=h)&&(bJ v (vO M r) && !XM M v r)
theorem QW(h:yI M){b:Nat}(ha:a<M.heads.length)(hb:b<M.heads.length)(e:M.heads.getD a 0=M.heads.getD b 0):a=b:=by
 have hn:M.heads.Nodup:=by rw[h.heads];exact aC _
 have h1:=List.pairwise_iff_getElem.1 hn;simp only[List.getD,pb ha,pb hb,Option.getD_some]at e;rcases Nat.lt_trichotomy a b with h2|h2|h2
 ·exact absurd e (h1 a b ha hb h2)
 ·exact h2
 ·exact absurd e.symm (h1 b a hb ha h2)
theorem VB(h:yI M){x:Nat}(hx:x∈M.heads):x<4:=by
 rw[h.heads]at hx;rcases(cF (M.rules.map xP.head) [] (x:=x)).1 hx with q|q
 ·cases q
 ·obtain⟨r,hr,rfl⟩:=p9.1 q;exact(h.rules r hr).head
theorem nJ(h:yI M){d:Nat}(hd:d∈M.heads):∃a,a<M.heads.length/\zH (M.heads.map (xG 99)) (xG 99 d)=(a:Int)/\M.heads.getD a 0=d:=by
 obtain⟨a,ha,e1,e2⟩:=sL (l:=M.heads.map (xG 99)) (p9.2 ⟨d,hd,rfl⟩);rw[pi]at ha;refine⟨a,ha,e1,?_⟩;rw[pd,List.getElem?_map,pb ha]at e2;have e3:M.heads[a]=d:=Kc _ (VB h (dm ha)) d (VB h hd) e2;simp[List.getD,ha,e3]
theorem F4(h:yI M){r:Nat}(hr:r<M.rules.length):(vO M r).head∈M.heads:=by
 rw[h.heads];exact(cF (M.rules.map xP.head) []).2 (.inr (p9.2 ⟨_,lI hr,rfl⟩))
theorem C3{f g:Nat->Bool}(l:List Nat)(h:∀x∈l,f x=g x):l.any f=l.any g:=by
 induction l with
 | nil=>rfl
 | cons x r ih=>rw[cw,cw,h x (by simp),ih fun y hy=>h y (by simp[hy])]
theorem C1{b:Nat}(hh:Ke (qM (zO ls) ls gZ) a b):a<(zO ls).length/\b<(zO ls).length/\True:=by
 obtain⟨ha,hb,hg⟩:=hh;rw[Xe _ _ ha hb _ xK,BU,bf]at hg;obtain⟨x,-,hx⟩:=me.1 hg;unfold zFN at hx;rw[pq,pq,ba,pw,pw]at hx;obtain⟨-,e1,e2⟩:=hx;refine⟨by have:=(jP (zO ls) x.conc).2;omega,?_,trivial⟩;rcases e2 with e2|e2
 ·obtain⟨y,-,hy⟩:=me.1 e2
  have e3:=ce hy;have:=(jP (zO ls) y.name).2;omega
 ·obtain⟨y,-,hy⟩:=me.1 e2
  rw[pq]at hy;have e3:=ce hy.2;have:=(jP (zO ls) y.name).2;omega
theorem j9(h:vL ls)(ha:a<(zO ls).length):dQ (qM (zO ls) ls gZ) a<(zO ls).length:=by
 have h8:=h.heads;have hl:(qM (zO ls) ls gZ).length=64:=by rw[fT];exact xK
 have harr:=fun {a b:Nat} (hh:Ke (qM (zO ls) ls gZ) a b)=>C1 hh;have hr:=h.nam;generalize qM (zO ls) ls gZ=G at *;generalize (zO ls).length=H at *;obtain⟨H,rfl⟩:∃k,H=k+1:=⟨H-1,by omega⟩
 have top:∀a,a<8->gQ G (H+1) a<=H:=by
  intro a ha8;have hle:=QL G (H+1) a;rcases md (gQ G (H+1) a) (H+1) with h1|h1
  ·omega
  ·exfalso
   obtain⟨x,-,hx8,hx⟩:=Vr G (H+1) a ha8 (by omega)
   have zL9:∀i,i<=H+1->x i<H+1:=fun i hi=>by
    rcases Nat.eq_zero_or_pos i with h0|h0
    ·subst h0;exact(harr (hx 0 (by omega))).1
    ·have:=(harr (hx (i-1) (by omega))).2.1
     rwa [show i-1+1=i by omega]at this
   obtain⟨i,j,h1,h2,h3⟩:=K8 (H+1) x zL9;have ht:=Ub hx (j-i-1) i (by omega);rw[show i+(j-i-1)+1=j by omega,<-h3]at ht;have:qS G=true:=(Zd hl).2 ⟨x i,hx8 i (by omega),ht⟩;rw[hr]at this;cases this
 have still:∀d a,a<8->gQ G (H+1+d) a=gQ G H a:=by
  intro d
  induction d with
  | zero=>intro a ha8;exact(Xl G H a (top a ha8)).symm
  | succ d ih =>
    intro a ha8;rw[show H+1+(d+1)=(H+1+d)+1 by omega,gQ];have e:sO (gA G a) (gQ G (H+1+d)) 8 0 0=sO (gA G a) (gQ G H) 8 0 0:=Vn 8 0 0 fun z _ hz=>⟨rfl,fun _=>ih z (by omega)⟩;rw[e];exact(Xl G H a (top a ha8)).symm
 unfold dQ;rcases md 7 (H+1) with h1|h1
 ·have:=QL G 7 a;omega
 ·have:=still (7-(H+1)) a (by omega)
  rw[show H+1+(7-(H+1))=7 by omega]at this;rw[this];have:=QL G H a;omega
def iW(M:yC)(inn:Nat->Int)(st av:Nat->Int):FV:=⟨inn,fun d=>decide (d∈M.heads)&&decide (st (zH (M.heads.map (xG 99)) (xG 99 d)).toNat=1),fun d=>if d∈M.heads then av (zH (M.heads.map (xG 99)) (xG 99 d)).toNat else 0⟩
def ZD(x:zQ):Prop:=0<=x.low/\x.high<=9999
theorem ji(ls:List zE):∀acc,(∀x∈acc,ZD x)->(∀x∈ls,gO x)->∀x∈cY ls acc,ZD x:=by
 induction ls with
 | nil=>intro acc h _;exact h
 | cons y r ih =>
   intro acc h hg;rw[cY];refine ih _ ?_ (fun x hx=>hg x (by simp[hx]));split
   ·intro x hx
    rcases pu.1 hx with hx|hx
    ·exact h x hx
    ·rw[pr.1 hx]
     have gy:=hg y (by simp);unfold mB ZD;split
     ·exact⟨gy.lo0,gy.hi1⟩
     ·exact⟨lh _,show (0:Int)<=9999 by decide⟩
   ·exact h
theorem zEI(hg:∀x∈ls,gO x)(i:Nat):ZD ((zX ls).getD i iI):=by
 have h:=ji ls [] (by simp) hg;by_cases hi:i<(zX ls).length
 ·have:(zX ls).getD i iI∈zX ls:=by rw[pd,pb hi];exact dm hi
  exact h _ this
 ·rw[pd,fw (by omega)]
  exact⟨lh _,show (0:Int)<=9999 by decide⟩
def zJF(l:List Int):Prop:=∀j,0<=l.getD j 0/\l.getD j 0<=9999
theorem zJF.set{l:List Int}(h:zJF l)(i:Nat){x:Int}(hx:0<=x/\x<=9999):zJF (l.set i x):=fun j=>by
 simp only[List.getD,List.getElem?_set];by_cases e:i=j
 ·rw[tl e]
  by_cases hl:i<l.length
  ·rw[tl hl];exact hx
  ·rw[tb hl];exact⟨lh _,show (0:Int)<=9999 by decide⟩
 ·rw[tb e];exact h j
theorem Ck{f:Ju}{x:zQ}(hx:ZD x)(hf:f.isNum=false->f.value=0\/f.value=1)(h:bO f x=true):0<=f.value/\f.value<=9999:=by
 unfold bO at h;obtain⟨h1,h2⟩:=hx;split at h
 ·have:=hf (by simpa using h)
  omega
 ·simp only[pq,pw]at h
  omega
theorem G9(n v:PT):(qV n v).isNum=false->(qV n v).value=0\/(qV n v).value=1:=by
 unfold qV;split
 ·intro h;exact absurd h (by simp)
 ·intro _
  show (if v.s=[121,101,115] then (1:Int) else 0)=0\/(if v.s=[121,101,115] then (1:Int) else 0)=1;split
  ·exact .inr rfl
  ·exact .inl rfl
theorem KW(P:List PT)(I:List zQ)(hI:∀i,ZD (I.getD i iI)):∀n i st st',zJF st.1->tG P I n i st=some st'->zJF st'.1:=by
 intro n
 induction n with
 | zero=>intro i st st' h e;rw[tG]at e;rw[<-Option.some.inj e];exact h
 | succ n ih =>
   intro i st st' h e;rw[tG]at e;split at e
   ·split at e
    ·cases e
    ·split at e
     ·cases e
     ·split at e
      ·cases e
      ·rename_i hft
       have hft':bO (qV (yK P (i*4)) (yK P (i*4+2))) (I.getD (zH (I.map zQ.name) (qV (yK P (i*4)) (yK P (i*4+2))).name).toNat iI)=true:=by
        cases hz:bO (qV (yK P (i*4)) (yK P (i*4+2))) (I.getD (zH (I.map zQ.name) (qV (yK P (i*4)) (yK P (i*4+2))).name).toNat iI) with
        | true=>rfl
        | false=>exact absurd hz hft
       exact ih _ _ _ (h.set _ (Ck (hI _) (G9 _ _) hft')) e
   ·rw[<-Option.some.inj e];exact h
theorem Cx(hg:∀x∈ls,gO x)(f:Bs):wN ls (xD (zX ls) f).1:=by
 refine⟨fun x hx _ p hp=>?_,fun i=>?_⟩
 ·obtain⟨j,hj,rfl⟩:=cq hp
  have:=(hg x hx).sums j hj;unfold Qf at this;rw[pd,pb hj]at this;exact this
 ·have key:zJF (xD (zX ls) f).1:=by
   have h0:zJF []:=fun j=>⟨lh _,show (0:Int)<=9999 by decide⟩;unfold xD;split
   ·exact h0
   ·split
    ·exact h0
    ·split
     ·exact h0
     ·rename_i st zLO
      split
      ·refine KW _ _ (zEI hg) _ _ _ _ ?_ zLO
       intro j;simp only[List.getD,bt];split <;> exact⟨lh _,show (0:Int)<=9999 by decide⟩
      ·exact h0
  have:=key i;omega
open Go.RowKit
def anW(n:Nat)(f:Nat->Bs)(g h:Nat->Int):List Value:=(List.range n).flatMap fun i=>[.string ⟨(f i).toArray⟩,.int .i64 (g i),.int .i64 (h i)]
theorem Cc{f g:Nat->List Value}(l:List Nat)(h:∀i∈l,f i=g i):l.flatMap f=l.flatMap g:=by
 induction l with
 | nil=>rfl
 | cons x r ih=>rw[bh,bh,h x (by simp),ih fun i hi=>h i (by simp[hi])]
theorem zKL{w:World}{a:Option Addr}{n:Nat}{f:Nat->Bs}{g k:Nat->Int}(h:tZ w a (anW n f g k)){i:Nat}(hi:i<n):∃G,a=some ⟨G,0,none⟩/\w.cell? ⟨G,i*3,none⟩=some (.string ⟨(f i).toArray⟩)/\w.cell? ⟨G,i*3+1,none⟩=some (.int .i64 (g i))/\w.cell? ⟨G,i*3+2,none⟩=some (.int .i64 (k i)):=by
 have q:=fun r (hr:r<3)=>zN (fun i=>[Value.string ⟨(f i).toArray⟩,.int .i64 (g i),.int .i64 (k i)]) 3 (fun _=>rfl) 0 (List.range n) i r (by simpa using hi) hr;rw[cO n i hi]at q;obtain⟨G,e,c0⟩:=h.at (q 0 (by decide));obtain⟨G',e',c1⟩:=h.at (q 1 (by decide));obtain⟨G'',e'',c2⟩:=h.at (q 2 (by decide));obtain rfl:G=G':=by rw[e]at e';simpa using e'
 obtain rfl:G=G'':=by rw[e]at e'';simpa using e''
 exact⟨G,e,c0,c1,c2⟩
variable {M:yC} {G:Nat->GR}
def eW(v:FV)(p:yU):Int:=if 0<=p.num then p.n*v.inn p.num.toNat else if 0<=p.head then p.n*v.val p.head.toNat else p.n
def yy(v:FV):List yU->Int->Int
 | [],n=>n
 | p::r,n=>yy v r (if p.minus=true then n-eW v p else n+eW v p)
def KA(v:FV)(r:xP):Int:=yy v r.parts 0
structure zKU(heads:List Nat)(v:FV)(ins cs:List Bs)(s:yX):Prop where
 num:∀i,i<3->qI s.inputs (zH ins (yD i))=v.inn i
 val:∀d∈heads,qI s.values (zH cs (xG 99 d))=v.val d
theorem UK{ins cs:List Bs}{s:yX}{heads:List Nat}{h:Nat}(hh:h<=4)(zL9:∀i,i<3->0<=zH ins (yD i))(hco:∀d,d<4->zH ins (xG 99 d)<0)(hE:zKU heads v ins cs s){p:yU}(hp:jR (xC heads h) p)(h1:zm p)(m:Bool):lQ s (xT ins cs (bH m p))=if m=true then -eW v p else eW v p:=by
 obtain⟨mi,ti,n,nu,hd⟩:=p;have ne1:∀i,¬yD i=[]:=fun i e=>by have:=Yu i;rw[e]at this;cases this
 have ne2:∀d,¬xG 99 d=[]:=fun d=>by unfold xG;simp
 have kN:∀(st:Bool) (z:Int) (i:Nat),i<3->lQ s (xT ins cs ⟨m,st,z,yD i⟩)=(if m=true then -(if st=true then z else 1) else (if st=true then z else 1))*v.inn i:=fun st z i hi=>by
  have hf:=zL9 i hi;have a1:JD ins ⟨m,st,z,yD i⟩=2:=by unfold JD;rw[tb (ne1 i),tb (by simp only;omega)]
  have a2:zr ins cs ⟨m,st,z,yD i⟩=zH ins (yD i):=by unfold zr;rw[tb (ne1 i),tb (by simp only;omega)]
  have a3:U4 ⟨m,st,z,yD i⟩=if st=true then z else 1:=by unfold U4;rw[tb (ne1 i)]
  unfold xT lQ;simp only[a1,a2,a3];rw[tb (by decide),tl trivial,hE.num i hi]
 have kH:∀(st:Bool) (z:Int) (d:Nat),d∈heads->d<4->lQ s (xT ins cs ⟨m,st,z,xG 99 d⟩)=(if m=true then -(if st=true then z else 1) else (if st=true then z else 1))*v.val d:=fun st z d hdm hd4=>by
  have hf:=hco d hd4;have a1:JD ins ⟨m,st,z,xG 99 d⟩=3:=by unfold JD;rw[tb (ne2 d),tl hf]
  have a2:zr ins cs ⟨m,st,z,xG 99 d⟩=zH cs (xG 99 d):=by unfold zr;rw[tb (ne2 d),tl hf]
  have a3:U4 ⟨m,st,z,xG 99 d⟩=if st=true then z else 1:=by unfold U4;rw[tb (ne2 d)]
  unfold xT lQ;simp only[a1,a2,a3];rw[tb (by decide),tb (by decide),tl trivial,hE.val d hdm]
 unfold zm at h1;rcases hp with ⟨h0,h2,h3,h4⟩|⟨h0,h2,h3⟩|⟨h0,h2,h3,h4⟩|⟨h2,h3,d,hd4,h4⟩
 ·simp only at h0 h2 h3 h4 h1
  subst h0 h3 h4;have e2:bH m ⟨mi,false,n,-1,-1⟩=⟨m,false,n,[]⟩:=by simp[bH]
  rw[e2];show (if m then -n else n)=if m=true then -n else n;rfl
 ·simp only at h0 h2 h3 h1
  subst h0 h3
  have hn:n=1:=by
   rcases h1 with h1|h1|h1
   ·cases h1
   ·exact h1
   ·omega
  subst hn;have e2:bH m ⟨mi,false,1,nu,-1⟩=⟨m,false,0,yD nu.toNat⟩:=by simp[bH,h2.1]
  rw[e2,kN _ _ _ (by omega)];unfold eW;simp only[tl h2.1];cases m <;> simp[Int.neg_mul]
 ·simp only at h0 h2 h3 h4
  subst h0 h4;have e2:bH m ⟨mi,true,n,nu,-1⟩=⟨m,true,n,yD nu.toNat⟩:=by simp[bH,h3.1]
  rw[e2,kN _ _ _ (by omega)];unfold eW;simp only[tl h3.1];cases m <;> simp[Int.neg_mul]
 ·simp only at h2 h3 h4 h1
  subst h3 h4;unfold xC at hd4;rw[mj,py,pw]at hd4;obtain⟨zKZ,hm⟩:=hd4
  have eT:eW v ⟨mi,ti,n,-1,(d:Int)⟩=n*v.val d:=by
   unfold eW;simp only;rw[tb (by decide),tl (by omega),Int.toNat_natCast]
  rw[eT]
  cases ti with
  | true =>
    have e2:bH m ⟨mi,true,n,-1,d⟩=⟨m,true,n,xG 99 d⟩:=by simp[bH]
    rw[e2,kH _ _ _ hm (by omega)];cases m <;> simp[Int.neg_mul]
  | false =>
    have hn:n=1:=by
     rcases h1 with h1|h1|h1
     ·cases h1
     ·exact h1
     ·omega
    subst hn;have e2:bH m ⟨mi,false,1,-1,d⟩=⟨m,false,0,xG 99 d⟩:=by simp[bH]
    rw[e2,kH _ _ _ hm (by omega)];cases m <;> simp[Int.neg_mul]
theorem zJX{r:xP}{heads:List Nat}(hr:dI heads r){ins cs:List Bs}{s:yX}(zL9:∀i,i<3->0<=zH ins (yD i))(hco:∀d,d<4->zH ins (xG 99 d)<0)(hE:zKU heads v ins cs s):eR s ((rB r.parts).map (xT ins cs))=KA v r:=by
 have h4:=hr.head
 have key:∀(l:List yU) (n:Int),(∀p∈l,jR (xC heads r.head) p)->(∀p∈l,zm p)->bL s ((l.map fun q=>bH q.minus q).map (xT ins cs)) n=yy v l n:=by
  intro l
  induction l with
  | nil=>intro n _ _;rfl
  | cons p l ih =>
    intro n h1 h2;rw[da,da,bL,yy,UK (by omega) zL9 hco hE (h1 p (by simp)) (h2 p (by simp)),ih _ (fun q hq=>h1 q (by simp[hq])) (fun q hq=>h2 q (by simp[hq]))];congr 1
    cases p.minus <;> simp;omega
 unfold eR KA;have hu:=hr.unit;have hp:=hr.parts.2.2
 cases hps:r.parts with
 | nil=>rfl
 | cons p l =>
   rw[hps]at hu hp;have hm:=hu.2 p l rfl;have e:rB (p::l)=(p::l).map fun q=>bH q.minus q:=by show bH false p::_=bH p.minus p::_;rw[hm]
   rw[e];exact key _ 0 hp hu.1
structure zBU(M:yC)(u:FV)(st av vd:Nat->Int):Prop where
 kvd:∀r,r<M.rules.length->vd r=zG1 M u r
 kst:∀c,c<M.heads.length->st c=oR (aL M u (M.heads.getD c 0))
 kav:∀c,c<M.heads.length->av c=wY (fun r=>KA u (vO M r)) (aL M u (M.heads.getD c 0))
 has:∀c,c<M.heads.length->u.has (M.heads.getD c 0)=decide (st c=1)
 val:∀c,c<M.heads.length->u.val (M.heads.getD c 0)=av c
 big:∀c,c<M.heads.length -> -28208277964652544<=av c/\av c<=28208277964652544
theorem zIK(h:yI M)(hF:FrG M G){L:List Int}{inn:Nat->Int}(hL:L.length=5)(hLi:∀j,j<5->L.getD j 0=inn j)(hs:wN (yA M G) L) :
 zBU M (iW M inn (xH (vH (yA M G) L hF.calm) M.heads.length M.heads.length 0 h0).st (xH (vH (yA M G) L hF.calm) M.heads.length M.heads.length 0 h0).av) (xH (vH (yA M G) L hF.calm) M.heads.length M.heads.length 0 h0).st (xH (vH (yA M G) L hF.calm) M.heads.length M.heads.length 0 h0).av (xH (vH (yA M G) L hF.calm) M.heads.length M.heads.length 0 h0).vd:=by
 have hc:=hF.calm;have eH:(zO (yA M G)).length=M.heads.length:=by rw[pI h,pi]
 have hn:∀r c,r<(vH (yA M G) L hc).n->(vH (yA M G) L hc).nm r c->c<M.heads.length:=fun r c hr hm=>by rw[<-eH];exact(B5 hc hr hm).1
 have hl:∀c,c<M.heads.length->(vH (yA M G) L hc).lev c<M.heads.length:=fun c zLQ=>by have:=j9 hc (a:=c) (by omega);rw[eH]at this;exact this
 have hh:∀r,r<(vH (yA M G) L hc).n->(vH (yA M G) L hc).head r<M.heads.length:=fun r hr=>by rw[<-eH];exact(sJ hr).2
 obtain⟨f1,f2⟩:=jy (vH (yA M G) L hc) M.heads.length hn hl hh
 have hbig:∀c,c<M.heads.length -> -28208277964652544<=(xH (vH (yA M G) L hc) M.heads.length M.heads.length 0 h0).av c/\(xH (vH (yA M G) L hc) M.heads.length M.heads.length 0 h0).av c<=28208277964652544:=fun c zLQ=>by
  obtain⟨n,e⟩:∃n,n+1=M.heads.length:=⟨M.heads.length-1,by omega⟩;have:=(QU (vH (yA M G) L hc) M.heads.length hn hl hh n e).2 c zLQ;rw[this.2];have h1:=XR hc hs M.heads.length c;have h2:=ur M.heads.length (by have:=hc.heads;omega);omega
 have hN:(vH (yA M G) L hc).n=M.rules.length:=by
  show (fQ (yA M G)).length=_;rw[JW,pi,List.length_range]
 have hrl:∀r,r<M.rules.length->(fQ (yA M G)).getD r Ym=nT (vO M r) r (G r):=fun r hr=>by rw[JW];simp[List.getD,hr]
 have hhd:∀r,r<M.rules.length->(vH (yA M G) L hc).head r<M.heads.length/\M.heads.getD ((vH (yA M G) L hc).head r) 0=(vO M r).head:=fun r hr=>by
  show iY (yA M G) r<_/\M.heads.getD (iY (yA M G) r) 0=_;unfold iY;rw[hrl r hr,pI h];obtain⟨a,ha,e1,e2⟩:=nJ h (F4 h hr);show (zH _ (xG 99 (vO M r).head)).toNat<_/\M.heads.getD (zH _ (xG 99 (vO M r).head)).toNat 0=_;rw[e1,Int.toNat_natCast];exact⟨ha,e2⟩
 have hdc:∀r c,r<M.rules.length->c<M.heads.length->(decide ((vH (yA M G) L hc).head r=c)=decide ((vO M r).head=M.heads.getD c 0)):=fun r c hr zLQ=>decide_eq_decide.2 (by
  obtain⟨k1,k2⟩:=hhd r hr;constructor
  ·intro e;rw[<-k2,e]
  ·intro e;exact QW h k1 zLQ (by rw[k2,e]))
 have habv:∀a b,(vH (yA M G) L hc).abv a b=gA (yB (nX M)) a b:=fun a b=>by rw[Jr,Jb h]
 have zL9:∀k,k<3->0<=zH oT (yD k):=fun k hk=>by rw[Xu k (by omega)];omega
 have hco:∀d,d<4->zH oT (xG 99 d)<0:=fun d hd=>by rw[jg d hd];decide
 generalize xH (vH (yA M G) L hc) M.heads.length M.heads.length 0 h0=s at *
 have hnum:∀k,k<5->qI L (zH oT (yD k))=inn k:=fun k hk=>by
  rw[Xu k hk];unfold qI;rw[tl ⟨by omega,by rw[hL];omega⟩,Int.toNat_natCast,hLi k hk]
 have happ:∀r,r<M.rules.length->(vH (yA M G) L hc).app r (fun c=>decide (s.st c=1))=bJ (iW M inn s.st s.av) (vO M r):=fun r hr=>by
  show qJ (sP (yA M G) r) ⟨L,(List.range (zO (yA M G)).length).map _,[]⟩=_;unfold sP;rw[hrl r hr,Yz,pI h,pi];refine Un h hr (hF.gr r hr) zL9 hco ⟨fun i hi=>?_,fun d hd=>?_⟩
  ·exact hnum i hi
  ·show kS ((List.range M.heads.length).map fun c=>decide (s.st c=1)) (zH (M.heads.map (xG 99)) (xG 99 d))=_
   obtain⟨a,ha,e1,e2⟩:=nJ h hd;rw[JL];unfold iW;simp only;rw[e1,tu (by omega),tu (by omega),tu hd,Int.toNat_natCast];simp
 have hsum:∀r,r<M.rules.length->(vH (yA M G) L hc).sum r s.av=KA (iW M inn s.st s.av) (vO M r):=fun r hr=>by
  show eR ⟨L,[],(List.range (zO (yA M G)).length).map s.av⟩ (sP (yA M G) r).sum=_;unfold sP;rw[hrl r hr,Yz,pI h,pi];refine zJX (h.rules _ (lI hr)) zL9 hco ⟨fun i hi=>hnum i (by omega),fun d hd=>?_⟩;show qI ((List.range M.heads.length).map s.av) (zH (M.heads.map (xG 99)) (xG 99 d))=_;obtain⟨a,ha,e1,e2⟩:=nJ h hd;rw[YZ];unfold iW;simp only;rw[e1,tl ⟨by omega,by omega⟩,tl hd]
 have hbeat:∀r,kK (vH (yA M G) L hc) (fun k=>(vH (yA M G) L hc).app k fun c=>decide (s.st c=1)) r=XM M (iW M inn s.st s.av) r:=fun r=>by
  unfold kK XM;rw[hN];exact C3 _ fun k hk=>by show ((vH (yA M G) L hc).app k (fun c=>decide (s.st c=1))&&_)=_;rw[happ k (py.1 hk),habv]
 have hstand:∀c,c<M.heads.length->xN (vH (yA M G) L hc) (fun k=>(vH (yA M G) L hc).app k fun c=>decide (s.st c=1)) c=aL M (iW M inn s.st s.av) (M.heads.getD c 0):=fun c zLQ=>by
  unfold xN aL;rw[hN];refine List.filter_congr fun r hr=>?_;have hr2:=py.1 hr;show (decide ((vH (yA M G) L hc).head r=c)&&((vH (yA M G) L hc).app r (fun c=>decide (s.st c=1)) && !_))=_;rw[hdc r c hr2 zLQ,happ r hr2,hbeat]
 have hv:∀c,c<M.heads.length->M.heads.getD c 0∈M.heads/\(zH (M.heads.map (xG 99)) (xG 99 (M.heads.getD c 0))).toNat=c:=fun c zLQ=>by
  have hm:M.heads.getD c 0∈M.heads:=by simp[List.getD,zLQ]
  obtain⟨a,ha,e1,e2⟩:=nJ h hm;exact⟨hm,by rw[e1,Int.toNat_natCast];exact QW h ha zLQ e2⟩
 refine⟨fun r hr=>?_,fun c zLQ=>?_,fun c zLQ=>?_,fun c zLQ=>?_,fun c zLQ=>?_,hbig⟩
 ·rw[f1 r (by rw[hN];exact hr)]
  unfold ZG zG1;show (if (vH (yA M G) L hc).app r (fun c=>decide (s.st c=1))=true then _ else _)=_;rw[happ r hr,hbeat]
 ·rw[(f2 c zLQ).1]
  unfold iQ;rw[hstand c zLQ]
 ·rw[(f2 c zLQ).2,hstand c zLQ]
  refine gU fun r hr=>?_;unfold aL at hr;exact hsum r (py.1 (mj.1 hr).1)
 ·unfold iW
  simp only;rw[tu (hv c zLQ).1,(hv c zLQ).2,mz]
 ·unfold iW
  simp only;rw[tl (hv c zLQ).1,(hv c zLQ).2]
end Go.Proofs.YtnbpdffdnphbeabGreatDoor
