import Derived.Test.YtnbpdffdnphbeabGreatDoorSoLaw
import Derived.Test.YtnbpdffdnphbeabGreatDoorWgSame
open Go.Proofs.Tryz
set_option maxHeartbeats 2000000
namespace Go.Proofs.YtnbpdffdnphbeabGreatDoor
open Go.RowKit
variable {M:yO} {G:Nat->GR}
variable{xs:List Value}{gs o gr i m g k j:Nat}{a:Option Addr}{t:TypeId}{v:Value}{w0 w w':World}
theorem sF(rs:List MX)(i:Nat):(qW rs i).1=(rs.map Prod.fst).getD i AQ.1:=by
 unfold qW;by_cases h:i<rs.length
 ·simp[List.getD,h]
 ·simp[List.getD,h]
theorem Kp{I:List yA}{H:Nat}{rs aA:List MX}{G:List Bool}(h:rs.map Prod.fst=aA.map Prod.fst)(hc:K3 I H rs G i j):K3 I H aA G i j:=by
 have e:∀k,(qW rs k).1=(qW aA k).1:=λk=>by rw[sF,sF,h]
 have hl:rs.length=aA.length:=by have:=gk List.length h;simpa using this
 obtain⟨h1,h2,h3,h4⟩:=hc;refine⟨h1,by omega,?_,by rw[<-e,<-e];exact h4⟩;unfold KO at h3 ⊢;rw[<-e,<-e];exact h3
def EG(F:List zE)(i j:Nat)(f:Nat->Int)(g:Nat->Bool):Prop:=∃rs:List MX,rs.map Prod.fst=uJ ((yC F).map yA.name) ((xR F).map Prod.fst) F/\VH (K3 (yC F) (xR F).length rs (Xv F)) i j/\Jj (yC F) (xR F).length (qW rs i).1 (qW rs j).1 f g
theorem RN{F:List zE}{i' j':Nat}{f f':Nat->Int}{g g':Nat->Bool}(h:EG F i j f g)(k:EG F i' j' f' g'):i=i'/\j=j'/\f=f'/\g=g':=by
 obtain⟨rs,h1,h2,h3⟩:=h;obtain⟨aA,k1,k2,k3⟩:=k;have e:rs.map Prod.fst=aA.map Prod.fst:=by rw[h1,k1]
 have a1:=h2.2 _ _ (Kp e.symm k2.1);have a2:=k2.2 _ _ (Kp e h2.1);obtain rfl:i=i':=by omega
 obtain rfl:j=j':=by omega
 have q:∀k,(qW rs k).1=(qW aA k).1:=λk=>by rw[sF,sF,e]
 rw[<-q,<-q]at k3;obtain⟨e1,e2⟩:=DJ h3 k3;exact⟨rfl,rfl,e1,e2⟩
def J5(w:World)(v:Value)(m k:Nat)(xs:List Value):Prop:=(v=.slice none 0 0/\m=0/\xs=[])\/∃g c,v=.slice (some ⟨g,0,none⟩) m c/\0<m/\xs.length=m*k/\∀j u,xs[j]? = some u->w.cell? ⟨g,j,none⟩=some u
def Hw(k:Int)(Ls:List Bs)(n:Nat)(Sv:List Value)(w w':World)(e:Ending):Prop:=∃(lv sv:Value),e=.returned (.tuple #[lv,sv,.int .i64 k])/\J5 w' lv Ls.length 1 (xG Ls)/\J5 w' sv n 2 Sv/\(∀g m c,sv=.slice (some g) m c->w.heap.size<=g.block/\∃cs,w'.heap[g.block]? = some (.cells cs 95 (0,0)))/\Below w.heap.size w w'
theorem qz(h:yR M):∃(k:Int) (Ls:List Bs) (n:Nat) (nm:Nat->Bs) (z:Nat->Int),Ls.length<=2/\n<=9/\((k=9/\¬Fq M)\/(k=0/\Fq M))/\∀w,Calls prog 29 #[.string ⟨(X1 (xY M false)).toArray⟩] w λe w'=>Hw k Ls n (CJ n nm z) w w' e:=by
 obtain⟨G,hF,hR⟩:=CF h false (KD h false) (XB h false);have hG:=hF.gr;have hc:=hF.calm;have hm:=hF.mod;have h4:M.aa.length<=4:=by have:=sP (hs:=M.rules.map vR.head) (λx hx=>by obtain⟨r,hr,rfl⟩:=pd.1 hx;exact(h.rules r hr).head);rw[<-h.aa]at this;omega
 have aX:(xR (yM M G)).length=M.aa.length:=by rw[sI hc,bQ h,pt]
 have aY:=dL M G;by_cases aJ:Fq M
 ·obtain⟨Ls,nm,z,ag,aN⟩:∃(Ls:List Bs) (nm:Nat->Bs) (z:Nat->Int),Ls.length=2/\∀i j f g (rs:List MX),rs.map Prod.fst=uJ ((yC (yM M G)).map yA.name) ((xR (yM M G)).map Prod.fst) (yM M G)->EG (yM M G) i j f g->[(qW rs i).1.label,(qW rs j).1.label]=Ls/\tU (yC (yM M G)) f (yC (yM M G)).length++mX (xR (yM M G)) g (xR (yM M G)).length=CJ (5+M.aa.length) nm z:=by
   by_cases hex:∃i j f g,EG (yM M G) i j f g
   ·obtain⟨i,j,f,g,aR⟩:=hex
    have aO:=aR;obtain⟨aI,aW,-⟩:=aR;refine⟨[(qW aI i).1.label,(qW aI j).1.label],AD M,ry f g,rfl,λi' j' f' g' rs hr ae => ?_⟩;obtain⟨rfl,rfl,rfl,rfl⟩:=RN aO ae;refine⟨?_,I3 h hc f g⟩;rw[sF rs,sF rs,sF aI,sF aI,hr,aW]
   ·exact⟨[[],[]],λ_=>[],λ_=>0,rfl,λi j f g rs _ hf=>x' ⟨i,j,f,g,hf⟩ hex⟩
  refine⟨0,Ls,5+M.aa.length,nm,z,by omega,by omega,.inr ⟨rfl,aJ⟩,λw=>?_⟩;refine(dE _ w (yM M G) hm (hR w)).mono ?_;rintro e w' ⟨rs,hr,hb,⟨rfl,hn⟩|⟨i,j,f,g,la,sa,sc,rfl,hf,aG,aC,aV,-,-⟩⟩
  ·obtain⟨i,j,aZ⟩:=(ke h hG hr).2 aJ
   exact x' aZ (hn i j)
  ·obtain⟨e1,e2⟩:=aN i j f g rs hr ⟨rs,hr,hf,aV.found⟩
   rw[e2]at aC;have aM:(CJ (5+M.aa.length) nm z).length=(5+M.aa.length)*2:=by unfold CJ;rw[RM _ 2 (λ_=>rfl),nl]
   rcases aG with aG|⟨gl,rfl,aG⟩
   ·cases aG
   ·rcases aC with aC|⟨gs,cs,hB,rfl,aS,aC⟩
    ·rw[aC]at aM;exact x' aM (by simp;omega)
    ·refine⟨_,_,by rw[aY,aX],.inr ⟨gl,2,by rw[ag],by omega,by unfold xG;simp,λq u hu=>?_⟩,.inr ⟨gs,sc,rfl,by omega,aM,λq u hu=>?_⟩,λgq m c eq=>?_,hb⟩
     ·have es:xG Ls=[.string ⟨(qW rs i).1.label.toArray⟩,.string ⟨(qW rs j).1.label.toArray⟩]:=by rw[<-e1];rfl
      rw[es]at hu;rw[aG q (dl.1 hu).1,hu]
     ·rw[zC aS q,aC q (dl.1 hu).1,hu]
     ·simp only[ct,bi]at eq
      obtain⟨rfl,-,-⟩:=eq;exact⟨hB,cs,aS⟩
 ·refine⟨9,[],0,λ_=>[],λ_=>0,by decide,by decide,.inl ⟨rfl,aJ⟩,λw=>?_⟩
  refine(dE _ w (yM M G) hm (hR w)).mono ?_;rintro e w' ⟨rs,hr,hb,⟨rfl,hn⟩|⟨i,j,f,g,la,sa,sc,rfl,hf,-⟩⟩
  ·exact⟨_,_,rfl,.inl ⟨rfl,rfl,rfl⟩,.inl ⟨rfl,rfl,rfl⟩,λg m c e=>by simp at e,hb⟩
  ·exact x' ((ke h hG hr).1 ⟨i,j,hf.1⟩) aJ
theorem J5.below(h:J5 w v m k xs)(hb:Below w.heap.size w w'):J5 w' v m k xs:=by
 rcases h with h|⟨g,c,h1,h2,h3,h4⟩
 ·exact .inl h
 ·exact .inr ⟨g,c,h1,h2,h3,λj u hu=>(hb.cell (p:=⟨g,j,none⟩) (yJ (h4 j u hu))).trans (h4 j u hu)⟩
theorem J5.ay(h:J5 w v m k xs):∃a c,v=.slice a m c/\kQ w a xs:=by
 rcases h with ⟨h1,h2,h3⟩|⟨g,c,h1,h2,h3,h4⟩
 ·exact⟨none,0,by rw[h1,h2],.inl h3⟩
 ·exact⟨some ⟨g,0,none⟩,c,h1,.inr ⟨g,rfl,λj hj=>by rw[h4 j _ (pm hj),pm hj]⟩⟩
theorem mV{P:Program}{ops:Array Oper}{rest:List Oper}{o:Oper}{a:Act}{Q:Exit->Act->World->Prop}(aQ:o.guard=none)(s x:Operand)(t:TypeId)
 (ho:o.op=.call { callee:=.builtin .append,args := #[s,x],argTypes := #[t,t] })
 (base:Nat) (e:TypeId) (i:TypeInfo) (z:Value) (size bytes:Nat) (ht:P.underlying t=some (.slice e)) (hi:P.info? e=some i) (hz:i.zero=some z)
 (aF:i.size=size) (af:i.bytes=bytes) (aU:z.cells.size=size) (aT:0<size)
 (v:Value) (n:Nat) (xs:List Value) (hs:a.eval s=v) (aK:w.ownsRow base e size v n xs)
 (v2:Value) (m:Nat) (news:List Value) (hx:a.eval x=v2) (aL:J5 w v2 m size news) (h1:∀u∈news,u.oneCell'=true)
 (ah:n+m<=maxLen) (aB:(n+m)*bytes<=140737488355328) (aH:base<=w.heap.size)
 (h:∀v' w',w'.ownsRow base e size v' (n+m) (xs++news)->w.grownBy w' v.ownBlock->wpList P ops Q rest (a.put o.dst v') w'):wpList P ops Q (o::rest) a w:=by
 rcases aL with ⟨k1,k2,k3⟩|⟨g,c,k1,k2,k3,k4⟩
 ·subst k2 k3
  refine wpList_append_own_none aQ s x t ho base e i size ht hi v n xs hs aK (by rw[hx,k1]) ?_;exact h v w (by simpa using aK) ⟨rfl,rfl,rfl,tg _,λ_ _ _=>rfl⟩
 ·exact wpList_append_own w aQ s x t ho base e i z size bytes ht hi hz aF af aU aT v n xs hs aK ⟨g,0,none⟩ m c news (by rw[hx,k1]) k3 (λj u hu=>by rw[show (⟨g,0,none⟩:Addr).add j=⟨g,j,none⟩ by unfold Addr.add;split <;> simp_all];exact k4 j u hu) h1 ah aB aH (λv' w' h2 h3 _=>h v' w' h2 h3)
theorem nI(w:World)(t:TypeId)(k:Nat):(w.alloc (.cells #[] t)).ownsRow w.heap.size t k (.slice (some ⟨w.heap.size,0,none⟩) 0 0) 0 []:=⟨by simp,.inr ⟨w.heap.size,0,#[],rfl,tg _,zF _ _,tg _,p8,by simp,by simp⟩⟩
theorem Ua(L:List Bs):∀u∈xG L,u.oneCell'=true:=λu hu=>by
 unfold xG at hu;obtain⟨s,-,rfl⟩:=pd.1 hu;rfl
theorem Ob(n:Nat)(nm:Nat->Bs)(z:Nat->Int):∀u∈CJ n nm z,u.oneCell'=true:=λu hu=>by
 unfold CJ at hu;obtain⟨j,-,hu⟩:=bg.1 hu;simp only[pi,lq,df]at hu;rcases hu with rfl|rfl <;> rfl
structure jn(w0 w':World)(gs gr:Nat):Prop where
 size:w0.heap.size<=w'.heap.size
 blk:∀b,b<w0.heap.size->b≠gs->b≠gr->w'.heap[b]? = w0.heap[b]?
theorem jn.refl(w:World)(gs gr:Nat):jn w w gs gr:=⟨tg _,λ_ _ _ _=>rfl⟩
theorem jn.set{b:Nat}(h:jn w0 w' gs gr)(hb:b=gs\/b=gr):jn w0 (w'.setCell ⟨b,k,none⟩ v) gs gr :=
 ⟨by simpa[World.setCell] using h.size,λc hc h1 h2=>by
  rw[l6 _ _ _ _ (show c≠(⟨b,k,none⟩:Addr).block from λe=>by
   have e':c=b:=e;rcases hb with rfl|rfl
   ·exact h1 e'
   ·exact h2 e')]
  exact h.blk c hc h1 h2⟩
theorem jn.below{w'':World}(h:jn w0 w' gs gr)(hb:Below w'.heap.size w' w''):jn w0 w'' gs gr :=
 ⟨tu h.size hb.size,λc hc h1 h2=>(hb.block c (tq hc h.size)).trans (h.blk c hc h1 h2)⟩
theorem dH.kp{B:Nat}(h:dH B w0 t a xs)(h1:gs<B)(h2:gr<B)(hk:jn w0 w' gs gr):kQ w' a xs:=by
 rcases h with h|⟨g,cs,h0,e,hb,hc⟩
 ·exact .inl h
 ·refine .inr ⟨g,e,λj hj=>?_⟩
  rw[zC ((hk.blk g (zP hb) (by omega) (by omega)).trans hb) j];exact hc j hj
def eH(w:World)(g:Nat)(t:TypeId)(n k o:Nat)(Q:Value->Prop):Prop:=∃cs,w.heap[g]? = some (.cells cs t (0,0))/\∀j,j<n->∃v,cs[j*k+o]? = some v/\Q v
theorem eH.below{n:Nat}{Q:Value->Prop}(h:eH w g t n k o Q)(hb:Below w.heap.size w w'):eH w' g t n k o Q:=by
 obtain⟨cs,h1,h2⟩:=h;exact⟨cs,(hb.block g (zP h1)).trans h1,h2⟩
theorem eH.at{n:Nat}{Q:Value->Prop}(h:eH w g t n k o Q)(hi:i<n):∃v,w.cell? ⟨g,i*k+o,none⟩=some v/\Q v/\w.frozen? ⟨g,i*k+o,none⟩=false:=by
 obtain⟨cs,h1,h2⟩:=h;obtain⟨v,e,q⟩:=h2 i hi;exact⟨v,(zC h1 _).trans e,q,by simp[World.frozen?,h1]⟩
theorem eH.set{n:Nat}{Q:Value->Prop}(h:eH w g t n k o Q)(j:Nat)(hv:Q v):eH (w.setCell ⟨g,j,none⟩ v) g t n k o Q:=by
 obtain⟨cs,h1,h2⟩:=h;refine⟨_,p9 _ _ _ _ _ _ h1,λi hi=>?_⟩;obtain⟨u,e,q⟩:=h2 i hi;by_cases hj:j<cs.size
 ·rw[vX hj]
  split
  ·exact⟨v,rfl,hv⟩
  ·exact⟨u,e,q⟩
 ·rw[Array.getElem?_setIfInBounds]
  split
  ·rename_i e2
   rw[<-e2]at e;rw[pw (by omega)]at e;cases e
  ·exact⟨u,e,q⟩
theorem eH.other{g':Nat}{n:Nat}{Q:Value->Prop}(h:eH w g t n k o Q)(aP:g≠g'):eH (w.setCell ⟨g',j,none⟩ v) g t n k o Q:=by
 obtain⟨cs,h1,h2⟩:=h;exact⟨cs,by rw[l6 _ _ _ _ (show g≠(⟨g',j,none⟩:Addr).block from aP)];exact h1,h2⟩
structure jc(w:World)(a:Option Addr)(m:Nat):Prop where
 blk:0<m->∃g o,a=some ⟨g,o,none⟩/\∀i,i<m->∃s:Bs,w.cell? ⟨g,o+i,none⟩=some (.string ⟨s.toArray⟩)/\s.length<=maxLen
 aj:m<=maxLen
theorem jc.below(h:jc w a m)(hb:Below w.heap.size w w'):jc w' a m:=by
 refine⟨λh0=>?_,h.aj⟩;obtain⟨g,o,e,hc⟩:=h.blk h0;refine⟨g,o,e,λi hi=>?_⟩;obtain⟨s,c,l⟩:=hc i hi;exact⟨s,(hb.cell (p:=⟨g,o+i,none⟩) (yJ c)).trans c,l⟩
theorem F5{L:List Bs}(h:kQ w a (xG L))(hi:i<L.length):∃g,a=some ⟨g,0,none⟩/\w.cell? ⟨g,i,none⟩=some (.string ⟨(L.getD i []).toArray⟩):=h.at (by unfold xG;simp[List.getD,hi])
theorem QH(w:World)(a b:Option Addr)(c d:Nat)(L:List Bs)(hn:L.length<=10000)(h1:kQ w a (xG L))(h2:kQ w b (xG L)) :
 Calls prog 36 #[.slice a L.length c,.slice b L.length d] w λe w'=>e=.returned (.bool true)/\Below w.heap.size w w':=by
 have H1:=zA h1;have H2:=zA h2;have q0:((L.length:Int) != (L.length:Int))=false:=by simp
 clear h1 h2
 go_enter func36,ntmps36
 go_wp2_with fail
 go_loopw [5] (λiv wr=>∃(i:Nat),i<=L.length/\iv=.int .i64 i/\Hid (Below w.heap.size w wr)) (λiv _=>L.length-(intOf iv).toNat)
 case atStart=>exact⟨0,p8,rfl,zA (tl _ _)⟩
 case round =>
  obtain⟨i,hi,rfl,HB⟩:=hrel;by_cases aD:i<L.length
  ·obtain⟨g1,rfl,c1⟩:=F5 (H1.out.below HB.out) aD
   obtain⟨g2,rfl,c2⟩:=F5 (H2.out.below HB.out) aD;have ii:(i:Int)<(L.length:Int):=by omega
   generalize L.getD i []=s at *;have t1:(s != s)=false:=by simp
   go_wp2_with fail
   go_quiet (fail)
   go_wp2_with fail
   go_roundw
   case rel=>exact⟨i+1,by omega,by go_num,zA (xQ HB.out _)⟩
   case measure=>simp[intOf];omega
  ·have ii:¬(i:Int)<(L.length:Int):=by omega
   go_wp2_with fail
   go_ret
   exact⟨rfl,HB.out⟩
theorem Bp(w:World)(a b:Option Addr)(c d n m:Nat)(aP:n≠m:=by decide) :
 Calls prog 36 #[.slice a n c,.slice b m d] w λe w'=>e=.returned (.bool false)/\Below w.heap.size w w':=by
 have q0:((n:Int) != (m:Int))=true:=by rw[bne_iff_ne];omega
 have q1:¬(n:Int)=(m:Int):=by omega
 go_enter func36,ntmps36
 go_wp2_with fail
 go_ret
 exact⟨rfl,tl _ _⟩
theorem RF(w:World)(a b:Option Addr)(c d n:Nat)(hn:n<=10000)(nm:Nat->Bs)(z:Nat->Int)(h1:kQ w a (Ao n nm z))(h2:kQ w b (Ao n nm z)) :
 Calls prog 39 #[.slice a n c,.slice b n d] w λe w'=>e=.returned (.bool true)/\Below w.heap.size w w':=by
 have H1:=zA h1;have H2:=zA h2;have q0:((n:Int) != (n:Int))=false:=by simp
 clear h1 h2
 go_enter func39,ntmps39
 go_wp2_with fail
 go_loopw [5] (λiv wr=>∃(i:Nat),i<=n/\iv=.int .i64 i/\Hid (Below w.heap.size w wr)) (λiv _=>n-(intOf iv).toNat)
 case atStart=>exact⟨0,p8,rfl,zA (tl _ _)⟩
 case round =>
  obtain⟨i,hi,rfl,HB⟩:=hrel;by_cases aD:i<n
  ·obtain⟨g1,rfl,c1,c2⟩:=IV (H1.out.below HB.out) aD
   obtain⟨g2,rfl,c3,c4⟩:=IV (H2.out.below HB.out) aD;have ii:(i:Int)<(n:Int):=by omega
   generalize nm i=s at *;generalize z i=sv at *;have t1:(s != s)=false:=by simp
   have t2:(sv != sv)=false:=by simp
   go_wp2_with fail
   go_quiet (fail)
   go_wp2_with fail
   go_roundw
   case rel=>exact⟨i+1,by omega,by go_num,zA (xQ HB.out _)⟩
   case measure=>simp[intOf];omega
  ·have ii:¬(i:Int)<(n:Int):=by omega
   go_wp2_with fail
   go_ret
   exact⟨rfl,HB.out⟩
end Go.Proofs.YtnbpdffdnphbeabGreatDoor
