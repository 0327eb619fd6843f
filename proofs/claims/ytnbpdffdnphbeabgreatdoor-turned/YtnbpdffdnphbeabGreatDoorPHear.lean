import Derived.Test.YtnbpdffdnphbeabGreatDoorPFv
import Derived.Test.YtnbpdffdnphbeabGreatDoorMCase
namespace Go.Proofs.YtnbpdffdnphbeabGreatDoor
variable{v:FV}{ls:List zE}{j:Nat}
theorem zAW(A:pE)(H:Nat)(hn:∀r c,r<A.n->A.nm r c->c<H)(hl:∀c,c<H->A.lev c<H)(hh:∀r,r<A.n->A.head r<H) :
 (∀r,r<A.n->(xN A H H 0 h0).vd r=Yb A (fun k=>A.app k fun c=>decide ((xN A H H 0 h0).st c=1)) r) /\
 ∀c,c<H->(xN A H H 0 h0).st c=wR A (fun k=>A.app k fun c=>decide ((xN A H H 0 h0).st c=1)) c/\(xN A H H 0 h0).av c=oP (fun r=>A.sum r (xN A H H 0 h0).av) (xL A (fun k=>A.app k fun c=>decide ((xN A H H 0 h0).st c=1)) c):=by
 by_cases h0':H=0
 ·subst h0'
  exact⟨fun r hr=>absurd (hh r hr) (by omega),fun c hc=>absurd hc (by omega)⟩
 ·obtain⟨n,rfl⟩:∃n,H=n+1:=⟨H-1,by omega⟩
  obtain⟨h1,h2⟩:=GZ A (n+1) hn hl hh n rfl;generalize xN A (n+1) (n+1) 0 h0=s at *;have hH:∀c,c<n+1->decide (s.st c=1)=lO A (n+1) c:=fun c hc=>by rw[(h2 c hc).1];rfl
  have hon:∀r,r<A.n->Q7 A n r=A.app r fun c=>decide (s.st c=1):=fun r hr=>by
   have e1:A.app r (fun c=>decide (s.st c=1))=Q7 A (n+1) r:=A.happ r _ _ hr fun c hc=>hH c (hn r c hr hc);rw[e1];exact(Z7 A hr (by have:=hl _ (hh r hr);omega) (by omega)).symm
  have zM7:∀c,xL A (Q7 A n) c=xL A (fun k=>A.app k fun c=>decide (s.st c=1)) c:=fun c=>dU A fun k hk _=>hon k hk;refine⟨fun r hr=>by rw[h1 r hr];exact YL A hr fun k hk _=>hon k hk,fun c hc=>⟨by rw[(h2 c hc).1];unfold wR;rw[zM7],?_⟩⟩;rw[<-zM7,(h2 c hc).2];show oP (fun r=>A.sum r (lN A n)) (xL A (Q7 A n) c)=_;refine nC fun r hr=>?_;obtain⟨k1,k2,-,-⟩:=sN A hr;refine A.hsum r _ _ k1 fun c' hn' => ?_;have h3:=hn r c' k1 hn';have h4:=A.hlev r c' k1 hn';have h5:=hl _ (hh r k1);rw[(h2 c' h3).2];exact((pF A (A.lev c'+1) c' n (by omega) (by omega)).2.trans (pF A (A.lev c'+1) c' (n+1) (by omega) (by omega)).2.symm)
variable {M:yB} {G:Nat->GR}
def ZK(v:FV)(j:Nat):Bs:=if j<3 then Lib.itoa (v.inn j) else if v.inn j=1 then [121,101,115] else [110,111]
def J4(v:FV)(s:Nat):List (List Bs):=(List.range 5).map fun i=>[yD ((i+s)%5),[61],ZK v ((i+s)%5),[59]]
def aK(v:FV)(s:Nat):Bs:=gY (J4 v s)
theorem sQ(h:yA M)(hv:lV M v)(hj:j<3):0<=v.inn j/\v.inn j<=9998:=by
 have h1:=h.nums j hj;have h2:=hv.num j hj;omega
theorem Ku(h:yA M)(hv:lV M v)(hj:j<3):yI (ZK v j)=3/\kQ (ZK v j)=v.inn j:=by
 have hr:=sQ h hv hj;unfold ZK;rw[tl hj];exact nO hr.1 (by omega)
theorem gL(hj:¬j<3):(ZK v j=[121,101,115]/\v.inn j=1)\/(ZK v j=[110,111]/\¬v.inn j=1):=by
 unfold ZK;rw[tb hj];by_cases h:v.inn j=1
 ·rw[tl h];exact .inl ⟨rfl,h⟩
 ·rw[tb h];exact .inr ⟨rfl,h⟩
theorem zJI(h:yA M)(hv:lV M v):Wd (ZK v j):=by
 by_cases hj:j<3
 ·have hr:=sQ h hv hj
  unfold ZK;rw[tl hj];exact Zv 2 (.inr rfl) (oJ hr.1 (by omega)).1 (oJ hr.1 (by omega)).2.1
 ·rcases gL (v:=v) hj with ⟨e,-⟩|⟨e,-⟩
  ·rw[e];exact Zv 1 (.inl rfl) (by decide) (by decide)
  ·rw[e];exact Zv 1 (.inl rfl) (by decide) (by decide)
theorem DP:∀j,j<5->(yD j≠[]/\∀c∈yD j,so c=1):=by decide
theorem zL1(h:yA M)(hv:lV M v)(s:Nat):tw (aK v s)=(J4 v s).flatten:=by
 refine ui _ fun ws hws w hw=>?_;obtain⟨i,-,rfl⟩:=p7.1 hws;have hm:(i+s)%5<5:=Nat.mod_lt _ (by decide);simp only[l6,fd,or_false]at hw;rcases hw with rfl|rfl|rfl|rfl
 ·exact Zv 1 (.inl rfl) (DP _ hm).1 (DP _ hm).2
 ·exact JM (by decide) (by decide) (by decide) (by decide)
 ·exact zJI h hv
 ·exact JM (by decide) (by decide) (by decide) (by decide)
theorem Fo{P:List PT}:∀ {ws:List Bs} {a:Nat},Zu P a ws->∀i,i<ws.length->At P (a+i) (ws.getD i [])
 | [],_,_,i,hi=>absurd hi (by simp)
 | w::r,a,h,0,_=>h.1
 | w::r,a,h,i+1,hi=>by
   have:=Fo h.2 i (by simpa using hi);rw[show a+1+i=a+(i+1) by omega]at this;exact this
theorem CC(v:FV)(s:Nat):(J4 v s).flatten.length=20:=rfl
theorem zBA(v:FV)(s i:Nat)(hi:i<5):(J4 v s).flatten.getD (i*4) []=yD ((i+s)%5)/\(J4 v s).flatten.getD (i*4+1) []=[61]/\(J4 v s).flatten.getD (i*4+2) []=ZK v ((i+s)%5)/\(J4 v s).flatten.getD (i*4+3) []=[59]:=by
 have h:i=0\/i=1\/i=2\/i=3\/i=4:=by omega
 rcases h with rfl|rfl|rfl|rfl|rfl <;> exact⟨rfl,rfl,rfl,rfl⟩
theorem zG9{P:List PT}{m:Nat}(hm:m%4=0)(hk:(yL P m).k=0)(ha:∀i,i<m->U6 (yL P i) i=true):∀n i,i+n=m->nZ P (n+1) i=true:=by
 intro n
 induction n with
 | zero =>
   intro i hi;obtain rfl:i=m:=by omega
   rw[nZ,tl ⟨hm,hk⟩]
 | succ n ih =>
   intro i hi;rw[nZ];split
   ·rfl
   ·rw[ha i (by omega),ih (i+1) (by omega)];rfl
theorem CG{p q:Nat->Int}(j:Nat):∀m,(∀k,k<m->p k=q k)->bU p j m=bU q j m:=by
 intro m
 induction m with
 | zero=>intro _;rfl
 | succ m ih=>intro h;rw[bU,bU,ih fun k hk=>h k (by omega),h m (by omega)]
variable {M:yB} {G:Nat->GR}
def sC(M:yB)(v:FV)(r:Nat):Bool:=(List.range M.rules.length).any fun k=>oA v (vE M k)&&gA (zW (dO M)) k r
def uc(M:yB)(v:FV)(r:Nat):Int:=if oA v (vE M r) then (if sC M v r then 1 else 2) else 0
def oQ(M:yB)(v:FV)(h:Nat):List Nat:=(List.range M.rules.length).filter fun r=>decide ((vE M r).head=h)&&(oA v (vE M r) && !sC M v r)
theorem gJ(h:yA M){x:Nat}(hx:x∈M.heads):x<4:=by
 rw[h.heads]at hx;rcases(aE (M.rules.map vI.head) [] (x:=x)).1 hx with q|q
 ·cases q
 ·obtain⟨r,hr,rfl⟩:=p7.1 q;exact(h.rules r hr).head
theorem fQ(h:yA M){r:Nat}(hr:r<M.rules.length):(vE M r).head∈M.heads:=by
 rw[h.heads];exact(aE (M.rules.map vI.head) []).2 (.inr (p7.2 ⟨_,pW hr,rfl⟩))
theorem iH{f g:Nat->Bool}(l:List Nat)(h:∀x∈l,f x=g x):l.any f=l.any g:=by
 induction l with
 | nil=>rfl
 | cons x r ih=>rw[cg,cg,h x (by simp),ih fun y hy=>h y (by simp[hy])]
theorem CP{a b:Nat}(hh:Zn (qN (zJ ls) ls gZ) a b):a<(zJ ls).length/\b<(zJ ls).length/\True:=by
 obtain⟨ha,hb,hg⟩:=hh;rw[Xx _ _ ha hb _ xG,Ct,lu]at hg;obtain⟨x,-,hx⟩:=ma.1 hg;unfold zGA at hx;rw[pe,pe,bg,po,po]at hx;obtain⟨-,e1,e2⟩:=hx;refine⟨by have:=(kX (zJ ls) x.conc).2;omega,?_,trivial⟩;rcases e2 with e2|e2
 ·obtain⟨y,-,hy⟩:=ma.1 e2
  have e3:=cb hy;have:=(kX (zJ ls) y.name).2;omega
 ·obtain⟨y,-,hy⟩:=ma.1 e2
  rw[pe]at hy;have e3:=cb hy.2;have:=(kX (zJ ls) y.name).2;omega
theorem zA8(h:xX ls){a:Nat}(ha:a<(zJ ls).length):dP (qN (zJ ls) ls gZ) a<(zJ ls).length:=by
 have h8:=h.heads;have hl:(qN (zJ ls) ls gZ).length=64:=by rw[fV];exact xG
 have harr:=fun {a b:Nat} (hh:Zn (qN (zJ ls) ls gZ) a b)=>CP hh;have hr:=h.nam;generalize qN (zJ ls) ls gZ=G at *;generalize (zJ ls).length=H at *;obtain⟨H,rfl⟩:∃k,H=k+1:=⟨H-1,by omega⟩
 have top:∀a,a<8->gU G (H+1) a<=H:=by
  intro a ha8;have hle:=Jj G (H+1) a;rcases me (gU G (H+1) a) (H+1) with h1|h1
  ·omega
  ·exfalso
   obtain⟨x,-,hx8,hx⟩:=VG G (H+1) a ha8 (by omega)
   have zLT:∀i,i<=H+1->x i<H+1:=fun i hi=>by
    rcases Nat.eq_zero_or_pos i with h0|h0
    ·subst h0;exact(harr (hx 0 (by omega))).1
    ·have:=(harr (hx (i-1) (by omega))).2.1
     rwa [show i-1+1=i by omega]at this
   obtain⟨i,j,h1,h2,h3⟩:=KY (H+1) x zLT;have ht:=Uw hx (j-i-1) i (by omega);rw[show i+(j-i-1)+1=j by omega,<-h3]at ht;have:qV G=true:=(Z5 hl).2 ⟨x i,hx8 i (by omega),ht⟩;rw[hr]at this;cases this
 have still:∀d a,a<8->gU G (H+1+d) a=gU G H a:=by
  intro d
  induction d with
  | zero=>intro a ha8;exact(X5 G H a (top a ha8)).symm
  | succ d ih =>
    intro a ha8;rw[show H+1+(d+1)=(H+1+d)+1 by omega,gU];have e:aI (gA G a) (gU G (H+1+d)) 8 0 0=aI (gA G a) (gU G H) 8 0 0:=VC 8 0 0 fun z _ hz=>⟨rfl,fun _=>ih z (by omega)⟩;rw[e];exact(X5 G H a (top a ha8)).symm
 unfold dP;rcases me 7 (H+1) with h1|h1
 ·have:=Jj G 7 a;omega
 ·have:=still (7-(H+1)) a (by omega)
  rw[show H+1+(7-(H+1))=7 by omega]at this;rw[this];have:=Jj G H a;omega
def ZY(x:zO):Prop:=0<=x.low/\x.high<=9999
theorem zAH(ls:List zE):∀acc,(∀x∈acc,ZY x)->(∀x∈ls,gQ x)->∀x∈cX ls acc,ZY x:=by
 induction ls with
 | nil=>intro acc h _;exact h
 | cons y r ih =>
   intro acc h hg;rw[cX];refine ih _ ?_ (fun x hx=>hg x (by simp[hx]));split
   ·intro x hx
    rcases pt.1 hx with hx|hx
    ·exact h x hx
    ·rw[pu.1 hx]
     have gy:=hg y (by simp);unfold jM ZY;split
     ·exact⟨gy.lo0,gy.hi1⟩
     ·exact⟨lh _,show (0:Int)<=9999 by decide⟩
   ·exact h
theorem zF7(hg:∀x∈ls,gQ x)(i:Nat):ZY ((zV ls).getD i wK):=by
 have h:=zAH ls [] (by simp) hg;by_cases hi:i<(zV ls).length
 ·have:(zV ls).getD i wK∈zV ls:=by rw[p8,pb hi];exact fe hi
  exact h _ this
 ·rw[p8,List.getElem?_eq_none (by omega)]
  exact⟨lh _,show (0:Int)<=9999 by decide⟩
def zK3(l:List Int):Prop:=∀j,0<=l.getD j 0/\l.getD j 0<=9999
theorem zK3.set{l:List Int}(h:zK3 l)(i:Nat){x:Int}(hx:0<=x/\x<=9999):zK3 (l.set i x):=fun j=>by
 simp only[List.getD,List.getElem?_set];by_cases e:i=j
 ·rw[tl e]
  by_cases hl:i<l.length
  ·rw[tl hl];exact hx
  ·rw[tb hl];exact⟨lh _,show (0:Int)<=9999 by decide⟩
 ·rw[tb e];exact h j
theorem C6{f:JJ}{x:zO}(hx:ZY x)(hf:f.isNum=false->f.value=0\/f.value=1)(h:bM f x=true):0<=f.value/\f.value<=9999:=by
 unfold bM at h;obtain⟨h1,h2⟩:=hx;split at h
 ·have:=hf (by simpa using h)
  omega
 ·simp only[pe,po]at h
  omega
theorem zy(n v:PT):(qY n v).isNum=false->(qY n v).value=0\/(qY n v).value=1:=by
 unfold qY;split
 ·intro h;exact absurd h (by simp)
 ·intro _
  show (if v.s=[121,101,115] then (1:Int) else 0)=0\/(if v.s=[121,101,115] then (1:Int) else 0)=1;split
  ·exact .inr rfl
  ·exact .inl rfl
theorem Vs(P:List PT)(I:List zO)(hI:∀i,ZY (I.getD i wK)):∀n i st st',zK3 st.1->tP P I n i st=some st'->zK3 st'.1:=by
 intro n
 induction n with
 | zero=>intro i st st' h e;rw[tP]at e;rw[<-Option.some.inj e];exact h
 | succ n ih =>
   intro i st st' h e;rw[tP]at e;split at e
   ·split at e
    ·cases e
    ·split at e
     ·cases e
     ·split at e
      ·cases e
      ·rename_i hft
       have hft':bM (qY (yL P (i*4)) (yL P (i*4+2))) (I.getD (zH (I.map zO.name) (qY (yL P (i*4)) (yL P (i*4+2))).name).toNat wK)=true:=by
        cases hz:bM (qY (yL P (i*4)) (yL P (i*4+2))) (I.getD (zH (I.map zO.name) (qY (yL P (i*4)) (yL P (i*4+2))).name).toNat wK) with
        | true=>rfl
        | false=>exact absurd hz hft
       exact ih _ _ _ (h.set _ (C6 (hI _) (zy _ _) hft')) e
   ·rw[<-Option.some.inj e];exact h
theorem CJ(hg:∀x∈ls,gQ x)(f:Bs):Zq ls (yU (zV ls) f).1:=by
 refine⟨fun x hx _ p hp=>?_,fun i=>?_⟩
 ·obtain⟨j,hj,rfl⟩:=cw hp
  have:=(hg x hx).sums j hj;unfold Q5 at this;rw[p8,pb hj]at this;exact this
 ·have key:zK3 (yU (zV ls) f).1:=by
   have h0:zK3 []:=fun j=>⟨lh _,show (0:Int)<=9999 by decide⟩;unfold yU;split
   ·exact h0
   ·split
    ·exact h0
    ·split
     ·exact h0
     ·rename_i st zM7
      split
      ·refine Vs _ _ (zF7 hg) _ _ _ _ ?_ zM7
       intro j;simp only[List.getD,co];split <;> exact⟨lh _,show (0:Int)<=9999 by decide⟩
      ·exact h0
  have:=key i;omega
open Go.RowKit
def zGQ(n:Nat)(f:Nat->Bs)(g:Nat->Int):List Value:=(List.range n).flatMap fun i=>[.string ⟨(f i).toArray⟩,.int .i64 (g i)]
def zHG(n:Nat)(f:Nat->Bs)(g h:Nat->Int):List Value:=(List.range n).flatMap fun i=>[.string ⟨(f i).toArray⟩,.int .i64 (g i),.int .i64 (h i)]
theorem XT{f g:Nat->List Value}(l:List Nat)(h:∀i∈l,f i=g i):l.flatMap f=l.flatMap g:=by
 induction l with
 | nil=>rfl
 | cons x r ih=>rw[bi,bi,h x (by simp),ih fun i hi=>h i (by simp[hi])]
theorem zGP{w:World}{a:Option Addr}{n:Nat}{f:Nat->Bs}{g:Nat->Int}(h:jR w a (zGQ n f g)){i:Nat}(hi:i<n):∃G,a=some ⟨G,0,none⟩/\w.cell? ⟨G,i*2,none⟩=some (.string ⟨(f i).toArray⟩)/\w.cell? ⟨G,i*2+1,none⟩=some (.int .i64 (g i)):=by
 have k:=fun r (hr:r<2)=>zQ (fun i=>[Value.string ⟨(f i).toArray⟩,.int .i64 (g i)]) 2 (fun _=>rfl) 0 (List.range n) i r (by simpa using hi) hr;rw[mW n i hi]at k;obtain⟨G,e,c0⟩:=h.at (k 0 (by decide));obtain⟨G',e',c1⟩:=h.at (k 1 (by decide));obtain rfl:G=G':=by rw[e]at e';simpa using e'
 exact⟨G,e,c0,c1⟩
theorem zHF{w:World}{a:Option Addr}{n:Nat}{f:Nat->Bs}{g k:Nat->Int}(h:jR w a (zHG n f g k)){i:Nat}(hi:i<n):∃G,a=some ⟨G,0,none⟩/\w.cell? ⟨G,i*3,none⟩=some (.string ⟨(f i).toArray⟩)/\w.cell? ⟨G,i*3+1,none⟩=some (.int .i64 (g i))/\w.cell? ⟨G,i*3+2,none⟩=some (.int .i64 (k i)):=by
 have q:=fun r (hr:r<3)=>zQ (fun i=>[Value.string ⟨(f i).toArray⟩,.int .i64 (g i),.int .i64 (k i)]) 3 (fun _=>rfl) 0 (List.range n) i r (by simpa using hi) hr;rw[mW n i hi]at q;obtain⟨G,e,c0⟩:=h.at (q 0 (by decide));obtain⟨G',e',c1⟩:=h.at (q 1 (by decide));obtain⟨G'',e'',c2⟩:=h.at (q 2 (by decide));obtain rfl:G=G':=by rw[e]at e';simpa using e'
 obtain rfl:G=G'':=by rw[e]at e'';simpa using e''
 exact⟨G,e,c0,c1,c2⟩
variable {M:yB} {G:Nat->GR}
def fU(v:FV)(p:yX):Int:=if 0<=p.num then p.n*v.inn p.num.toNat else if 0<=p.head then p.n*v.val p.head.toNat else p.n
def Va(v:FV):List yX->Int->Int
 | [],n=>n
 | p::r,n=>Va v r (if p.minus=true then n-fU v p else n+fU v p)
def Ba(v:FV)(r:vI):Int:=Va v r.parts 0
structure zLG(heads:List Nat)(v:FV)(ins cs:List Bs)(s:yZ):Prop where
 num:∀i,i<3->qK s.inputs (zH ins (yD i))=v.inn i
 val:∀d∈heads,qK s.values (zH cs (xM 99 d))=v.val d
theorem Bg{ins cs:List Bs}{s:yZ}{heads:List Nat}{h:Nat}(hh:h<=4)(zLT:∀i,i<3->0<=zH ins (yD i))(hco:∀d,d<4->zH ins (xM 99 d)<0)(hE:zLG heads v ins cs s){p:yX}(hp:tB (xF heads h) p)(h1:vb p)(m:Bool):lQ s (xW ins cs (bH m p))=if m=true then -fU v p else fU v p:=by
 obtain⟨mi,ti,n,nu,hd⟩:=p;have ne1:∀i,¬yD i=[]:=fun i e=>by have:=YE i;rw[e]at this;cases this
 have ne2:∀d,¬xM 99 d=[]:=fun d=>by unfold xM;simp
 have kN:∀(st:Bool) (z:Int) (i:Nat),i<3->lQ s (xW ins cs ⟨m,st,z,yD i⟩)=(if m=true then -(if st=true then z else 1) else (if st=true then z else 1))*v.inn i:=fun st z i hi=>by
  have hf:=zLT i hi;have a1:Ke ins ⟨m,st,z,yD i⟩=2:=by unfold Ke;rw[tb (ne1 i),tb (by simp only;omega)]
  have a2:vh ins cs ⟨m,st,z,yD i⟩=zH ins (yD i):=by unfold vh;rw[tb (ne1 i),tb (by simp only;omega)]
  have a3:UO ⟨m,st,z,yD i⟩=if st=true then z else 1:=by unfold UO;rw[tb (ne1 i)]
  unfold xW lQ;simp only[a1,a2,a3];rw[tb (by decide),tl trivial,hE.num i hi]
 have kH:∀(st:Bool) (z:Int) (d:Nat),d∈heads->d<4->lQ s (xW ins cs ⟨m,st,z,xM 99 d⟩)=(if m=true then -(if st=true then z else 1) else (if st=true then z else 1))*v.val d:=fun st z d hdm hd4=>by
  have hf:=hco d hd4;have a1:Ke ins ⟨m,st,z,xM 99 d⟩=3:=by unfold Ke;rw[tb (ne2 d),tl hf]
  have a2:vh ins cs ⟨m,st,z,xM 99 d⟩=zH cs (xM 99 d):=by unfold vh;rw[tb (ne2 d),tl hf]
  have a3:UO ⟨m,st,z,xM 99 d⟩=if st=true then z else 1:=by unfold UO;rw[tb (ne2 d)]
  unfold xW lQ;simp only[a1,a2,a3];rw[tb (by decide),tb (by decide),tl trivial,hE.val d hdm]
 unfold vb at h1;rcases hp with ⟨h0,h2,h3,h4⟩|⟨h0,h2,h3⟩|⟨h0,h2,h3,h4⟩|⟨h2,h3,d,hd4,h4⟩
 ·simp only at h0 h2 h3 h4 h1
  subst h0 h3 h4;have e2:bH m ⟨mi,false,n,-1,-1⟩=⟨m,false,n,[]⟩:=by simp[bH]
  rw[e2];show (if m then -n else n)=if m=true then -n else n;rfl
 ·simp only at h0 h2 h3 h1
  subst h0 h3
  have hn:n=1:=by
   rcases h1 with h1|h1|h1
   ·cases h1
   ·exact h1
   ·omega
  subst hn;have e2:bH m ⟨mi,false,1,nu,-1⟩=⟨m,false,0,yD nu.toNat⟩:=by simp[bH,h2.1]
  rw[e2,kN _ _ _ (by omega)];unfold fU;simp only[tl h2.1];cases m <;> simp[Int.neg_mul]
 ·simp only at h0 h2 h3 h4
  subst h0 h4;have e2:bH m ⟨mi,true,n,nu,-1⟩=⟨m,true,n,yD nu.toNat⟩:=by simp[bH,h3.1]
  rw[e2,kN _ _ _ (by omega)];unfold fU;simp only[tl h3.1];cases m <;> simp[Int.neg_mul]
 ·simp only at h2 h3 h4 h1
  subst h3 h4;unfold xF at hd4;rw[mh,pm,po]at hd4;obtain⟨zLL,hm⟩:=hd4
  have eT:fU v ⟨mi,ti,n,-1,(d:Int)⟩=n*v.val d:=by
   unfold fU;simp only;rw[tb (by decide),tl (by omega),Int.toNat_natCast]
  rw[eT]
  cases ti with
  | true =>
    have e2:bH m ⟨mi,true,n,-1,d⟩=⟨m,true,n,xM 99 d⟩:=by simp[bH]
    rw[e2,kH _ _ _ hm (by omega)];cases m <;> simp[Int.neg_mul]
  | false =>
    have hn:n=1:=by
     rcases h1 with h1|h1|h1
     ·cases h1
     ·exact h1
     ·omega
    subst hn;have e2:bH m ⟨mi,false,1,-1,d⟩=⟨m,false,0,xM 99 d⟩:=by simp[bH]
    rw[e2,kH _ _ _ hm (by omega)];cases m <;> simp[Int.neg_mul]
theorem zKL{r:vI}{heads:List Nat}(hr:oD heads r){ins cs:List Bs}{s:yZ}(zLT:∀i,i<3->0<=zH ins (yD i))(hco:∀d,d<4->zH ins (xM 99 d)<0)(hE:zLG heads v ins cs s):iU s ((rY r.parts).map (xW ins cs))=Ba v r:=by
 have h4:=hr.head
 have key:∀(l:List yX) (n:Int),(∀p∈l,tB (xF heads r.head) p)->(∀p∈l,vb p)->bJ s ((l.map fun q=>bH q.minus q).map (xW ins cs)) n=Va v l n:=by
  intro l
  induction l with
  | nil=>intro n _ _;rfl
  | cons p l ih =>
    intro n h1 h2;rw[dc,dc,bJ,Va,Bg (by omega) zLT hco hE (h1 p (by simp)) (h2 p (by simp)),ih _ (fun q hq=>h1 q (by simp[hq])) (fun q hq=>h2 q (by simp[hq]))];congr 1
    cases p.minus <;> simp;omega
 unfold iU Ba;have hu:=hr.unit;have hp:=hr.parts.2.2
 cases hps:r.parts with
 | nil=>rfl
 | cons p l =>
   rw[hps]at hu hp;have hm:=hu.2 p l rfl;have e:rY (p::l)=(p::l).map fun q=>bH q.minus q:=by show bH false p::_=bH p.minus p::_;rw[hm]
   rw[e];exact key _ 0 hp hu.1
end Go.Proofs.YtnbpdffdnphbeabGreatDoor
