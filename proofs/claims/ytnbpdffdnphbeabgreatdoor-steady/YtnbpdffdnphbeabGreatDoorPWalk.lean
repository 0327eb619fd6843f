import Derived.Test.YtnbpdffdnphbeabGreatDoorCkErr2
open Go.Proofs.Tryz
set_option maxHeartbeats 4000000
set_option maxRecDepth 100000
namespace Go.Proofs.YtnbpdffdnphbeabGreatDoor
variable(G C:List Bool)(w:World)(a n:Nat)
def rq(G C:List Bool)(a:Nat):Nat->Nat->Nat
 | 0,_=>a
 | n+1,k=>if gA G a k&&gA C k a then k else rq G C a n (k+1)
def jB(G C:List Bool)(a:Nat):Nat:=rq G C a 8 0
def eV(f:Nat->Nat):Nat->Nat->Nat
 | 0,x=>x
 | n+1,x=>eV f n (f x)
def V2(f:Nat->Nat)(a:Nat):Nat->List Nat->Nat->List Nat
 | 0,r,_=>r
 | n+1,r,x=>if x≠a/\r.length<8 then V2 f a n (r++[x]) (f x) else r
def XR(f:Nat->Nat)(a:Nat):List Nat:=V2 f a 8 [a] (f a)
def tO(G:List Bool):List Nat:=if lH (zT G)=8 then [] else XR (jB G (zT G)) (eV (jB G (zT G)) 8 (lH (zT G)))
theorem Mj(ha:a<8)(n:Nat):∀k,k+n=8->rq G C a n k<8:=by
 induction n with
 | zero=>intro k _;exact ha
 | succ n ih=>intro k h;rw[rq];split
              ·omega
              ·exact ih _ (by omega)
theorem TB:∀g:Nat->Nat,(∀i,i<=n->g i<n)->∃i j,i<j/\j<=n/\g i=g j:=by
 induction n with
 | zero=>intro g h;exact x' (h 0 (tg _)) (by omega)
 | succ n ih =>
   intro g h;rcases Classical.em (∃i,i<=n/\g i=g (n+1)) with ⟨i,h1,h2⟩|aQ
   ·exact⟨i,n+1,by omega,tg _,h2⟩
   ·
    have aR:∀i,i<=n->g i≠g (n+1):=λi hi e=>aQ ⟨i,hi,e⟩;have ak:=h (n+1) (tg _)
    obtain⟨i,j,h1,h2,h3⟩:=ih (λi=>if g i<g (n+1) then g i else g i-1) (λi hi=>by
     have h4:=h i (by omega);have h5:=aR i hi;show (if g i<g (n+1) then g i else g i-1)<n;split <;> omega)
    refine⟨i,j,h1,by omega,?_⟩;have h4:=aR i (by omega);have h5:=aR j h2;split at h3 <;> split at h3 <;> omega
theorem vL{P:Nat->Prop}:P n->∃m,m<=n/\P m/\∀k,k<m->¬P k:=by
 induction n using Nat.strongRecOn with
 | _ n ih =>
   intro h;rcases Classical.em (∃k,k<n/\P k) with ⟨k,h1,h2⟩|aQ
   ·obtain⟨m,h3,h4,h5⟩:=ih k h1 h2
    exact⟨m,by omega,h4,h5⟩
   ·exact⟨n,tg _,h,λk hk hp=>aQ ⟨k,hk,hp⟩⟩
def iU(p:Nat->Bool)(S:Nat->Nat):Nat->Nat->Nat->Nat
 | 0,_,acc=>acc
 | n+1,k,acc=>iU p S n (k+1) (if p k&&decide (acc<=S k) then S k+1 else acc)
theorem Qi(p:Nat->Bool)(S:Nat->Nat)(m:Nat)(n:Nat):∀k acc,iU p S n k acc<=m ↔ acc<=m/\∀z,k<=z->z<k+n->p z=true->S z+1<=m:=by
 induction n with
 | zero=>intro k acc;rw[iU];exact⟨λh=>⟨h,λz h1 h2=>by omega⟩,λh=>h.1⟩
 | succ n ih =>
   intro k acc;rw[iU,ih];constructor
   ·rintro⟨h1,h2⟩
    refine⟨?_,λz hz1 aS hp=>?_⟩
    ·split at h1
     ·rename_i hc;rw[ma,cd]at hc;omega
     ·exact h1
    ·by_cases hz:z=k
     ·subst hz
      split at h1
      ·exact h1
      ·rename_i hc
       rw[ma,cd]at hc;have:¬acc<=S z:=λh=>hc ⟨hp,h⟩;omega
     ·exact h2 z (by omega) (by omega) hp
   ·rintro⟨h1,h2⟩
    refine⟨?_,λz hz1 aS hp=>h2 z (by omega) (by omega) hp⟩;split
    ·rename_i hc;rw[ma,cd]at hc;exact h2 k (tg _) (by omega) hc.1
    ·exact h1
theorem Ve{p:Nat->Bool}{S T:Nat->Nat}{n:Nat}(h:∀z,z<n->p z=true->S z<=T z):iU p S n 0 0<=iU p T n 0 0:=by
 rw[Qi];refine⟨p8,λz _ hz hp=>?_⟩;have h2:=((Qi p T _ n 0 0).1 (tg _)).2 z (p8) hz hp;have:=h z (by omega) hp;omega
theorem R9{p q:Nat->Bool}{S T:Nat->Nat}:∀k acc,(∀z,k<=z->z<k+n->p z=q z/\(p z=true->S z=T z))->iU p S n k acc=iU q T n k acc:=by
 induction n with
 | zero=>intro k acc _;rfl
 | succ n ih =>
   intro k acc h;rw[iU,iU,ih (k+1) _ (λz h1 h2=>h z (by omega) (by omega))];obtain⟨h1,h2⟩:=h k (tg _) (by omega);congr 1
   cases hp:p k with
   | false=>rw[hp]at h1;rw[<-h1];rfl
   | true=>rw[h2 hp];rw[hp]at h1;rw[<-h1]
def eB(G:List Bool):Nat->Nat->Nat
 | 0,_=>0
 | n+1,a=>iU (gA G a) (eB G n) 8 0 0
theorem IJ:∀a,eB G n a<=n:=by
 induction n with
 | zero=>intro a;exact tg _
 | succ n ih=>intro a;rw[eB,Qi];exact⟨p8,λz _ _ _=>by have:=ih z;omega⟩
theorem N5:∀a,eB G n a<=eB G (n+1) a:=by
 induction n with
 | zero=>intro a;exact p8
 | succ n ih=>intro a;rw[eB,eB];exact Ve (λz _ _=>ih z)
theorem Rz:∀a,eB G (n+1) a<=n->eB G n a=eB G (n+1) a:=by
 induction n with
 | zero=>intro a h;have h2:eB G 0 a=0:=rfl;omega
 | succ n ih =>
   intro a h;rw[eB]at h;rw[Qi]at h;rw[eB,eB];exact R9 8 0 0 (λz h1 h2=>⟨rfl,λhp=>ih z (by have:=h.2 z h1 h2 hp;omega)⟩)
theorem Ry:∀a,a<8->eB G n a=n->∃x:Nat->Nat,x 0=a/\(∀i,i<=n->x i<8)/\∀i,i<n->B7 G (x i) (x (i+1)):=by
 induction n with
 | zero=>intro a ha _;exact⟨λ_=>a,rfl,λ_ _=>ha,λi h=>by omega⟩
 | succ n ih =>
   intro a ha h
   have hz:∃z,z<8/\gA G a z=true/\eB G n z=n:=by
    rcases Classical.em (∃z,z<8/\gA G a z=true/\eB G n z=n) with h1|h1
    ·exact h1
    ·exfalso
     have:eB G (n+1) a<=n:=by
      rw[eB,Qi];refine⟨p8,λz _ hz hp=>?_⟩;have h2:=IJ G n z;have h3:eB G n z≠n:=λe=>h1 ⟨z,by omega,hp,e⟩;omega
     omega
   obtain⟨z,ah,hp,hl⟩:=hz;obtain⟨x,h0,aN,hx⟩:=ih z ah hl;refine⟨λi=>if i=0 then a else x (i-1),by simp,λi hi=>?_,λi hi=>?_⟩
   ·by_cases h:i=0
    ·simp[h,ha]
    ·simp[h];exact aN (i-1) (by omega)
   ·by_cases h:i=0
    ·subst h;simp[h0];exact⟨ha,ah,hp⟩
    ·simp[h]
     have:=hx (i-1) (by omega)
     rwa [show i-1+1=i by omega]at this
theorem Pq{G:List Bool}{x:Nat->Nat}{n:Nat}(hx:∀i,i<n->B7 G (x i) (x (i+1)))(d:Nat):∀i,i+d+1<=n->TC (B7 G) (x i) (x (i+d+1)):=by
 induction d with
 | zero=>intro i h;exact TC.one (hx i (by omega))
 | succ d ih=>intro i h;exact(ih i (by omega)).trans (TC.one (hx (i+d+1) (by omega)))
theorem MZ{G:List Bool}(hl:G.length=64)(hr:jA G=false)(a:Nat)(ha:a<8):eB G 7 a=eB G 8 a:=by
 refine Rz G 7 a ?_;show eB G 8 a<=7;have h8:=IJ G 8 a;rcases mc (eB G 8 a) 8 with h|h
 ·omega
 ·exfalso
  obtain⟨x,-,aN,hx⟩:=Ry G 8 a ha (by omega);obtain⟨i,j,h1,h2,h3⟩:=TB 8 x aN;have ht:=Pq hx (j-i-1) i (by omega);rw[show i+(j-i-1)+1=j by omega,<-h3]at ht;have:jA G=true:=(JO hl).2 ⟨x i,aN i (by omega),ht⟩;rw[hr]at this;cases this
def sJ(G:List Bool)(a:Nat):Nat:=eB G 7 a
theorem FZ{G:List Bool}(hl:G.length=64)(hr:jA G=false)(a:Nat)(ha:a<8):iU (gA G a) (sJ G) 8 0 0=sJ G a:=by
 unfold sJ;rw[MZ hl hr a ha];rfl
theorem Rl{G:List Bool}(hl:G.length=64)(hr:jA G=false){a b:Nat}(ha:a<8)(hb:b<8)(h:gA G a b=true):sJ G b<sJ G a:=by
 have:=((Qi (gA G a) (sJ G) _ 8 0 0).1 (Nat.le_of_eq (FZ hl hr a ha))).2 b (p8) (by omega) h;omega
def yq(G:List Bool):Nat->Nat->List Nat->List Nat
 | 0,_,S=>S
 | n+1,a,S=>yq G n (a+1) (S.set a (iU (gA G a) (λz=>S.getD z 0) 8 0 0))
def XS(G:List Bool):Nat->List Nat->List Nat
 | 0,S=>S
 | n+1,S=>XS G n (yq G 8 0 S)
def pE(G:List Bool):List Nat:=XS G 7 (List.replicate 8 0)
theorem FE:∀a S,(yq G n a S).length=S.length:=by
 induction n with
 | zero=>intro a S;rfl
 | succ n ih=>intro a S;rw[yq,ih,List.length_set]
theorem Se:∀S,(XS G n S).length=S.length:=by
 induction n with
 | zero=>intro S;rfl
 | succ n ih=>intro S;rw[XS,ih,FE]
theorem UJ:(pE G).length=8:=by unfold pE;rw[Se];rfl
theorem Yp(S:List Nat)(a v z:Nat)(ha:a<S.length:=by omega):(S.set a v).getD z 0=if z=a then v else S.getD z 0:=by
 by_cases h:z=a
 ·subst h;simp[List.getD,ha]
 ·simp[List.getD,h,List.getElem?_set_ne (Ne.symm h)]
theorem CH{G:List Bool}(hl:G.length=64)(hr:jA G=false)(r:Nat)(n:Nat):∀a S,S.length=8->a+n=8->(∀z,z<8->eB G r z<=S.getD z 0/\S.getD z 0<=sJ G z)->(∀z,z<a->eB G (r+1) z<=S.getD z 0)->∀z,z<8->eB G (r+1) z<=(yq G n a S).getD z 0/\(yq G n a S).getD z 0<=sJ G z:=by
 induction n with
 | zero=>intro a S _ ha h1 h2 z hz;rw[yq];exact⟨h2 z (by omega),(h1 z hz).2⟩
 | succ n ih =>
   intro a S hS ha h1 h2;rw[yq]
   have aj:eB G (r+1) a<=iU (gA G a) (λz=>S.getD z 0) 8 0 0:=by
    rw[eB];exact Ve (λz hz _=>(h1 z hz).1)
   have a6:iU (gA G a) (λz=>S.getD z 0) 8 0 0<=sJ G a:=by
    rw[<-FZ hl hr a (by omega)];exact Ve (λz hz _=>(h1 z hz).2)
   refine ih (a+1) _ (by rw[List.length_set];exact hS) (by omega) (λz hz=>?_) (λz hz=>?_)
   ·rw[Yp S a _ z]
    split
    ·rename_i h;subst h;exact⟨tu (N5 G r z) aj,a6⟩
    ·exact h1 z hz
   ·rw[Yp S a _ z]
    split
    ·rename_i h;subst h;exact aj
    ·exact h2 z (by omega)
theorem Um{G:List Bool}(hl:G.length=64)(hr:jA G=false)(n:Nat):∀r S,S.length=8->(∀z,z<8->eB G r z<=S.getD z 0/\S.getD z 0<=sJ G z)->∀z,z<8->eB G (r+n) z<=(XS G n S).getD z 0/\(XS G n S).getD z 0<=sJ G z:=by
 induction n with
 | zero=>intro r S _ h z hz;exact h z hz
 | succ n ih =>
   intro r S hS h z hz;rw[XS,show r+(n+1)=(r+1)+n by omega];exact ih (r+1) _ (by rw[FE];exact hS) (CH hl hr r 8 0 S hS rfl h (λz hz=>by omega)) z hz
theorem D0{G:List Bool}(hl:G.length=64)(hr:jA G=false)(z:Nat)(hz:z<8):(pE G).getD z 0=sJ G z:=by
 have:=Um hl hr 7 0 (List.replicate 8 0) rfl (λz hz=>by
  have e:(List.replicate 8 0).getD z 0=0:=by simp only[List.getD,cy,hz,dj,Option.getD_some]
  rw[e];exact⟨tg _,p8⟩) z hz
 unfold pE;have h2:eB G (0+7) z=sJ G z:=rfl;omega
theorem R8(p:Nat->Bool)(S:Nat->Nat)(m n k acc:Nat)(ha:acc<=m+1)(h:∀z,k<=z->z<k+n->S z<=m):iU p S n k acc<=m+1:=by
 rw[Qi];exact⟨ha,λz h1 h2 _=>by have:=h z h1 h2;omega⟩
open Go.RowKit
theorem SP(k:Nat)(h:k<8):rq G C a (8-k) k=if gA G a k&&gA C k a then k else rq G C a (8-(k+1)) (k+1):=by
 rw[show 8-k=(8-(k+1))+1 by omega,rq]
theorem Va(g:Nat)(G C:List Bool)(a:Nat)(ha:a<8)(h:rL w g G)(hC:C.length=64) :
 Calls prog 120 #[.pointer (some ⟨g,0,none⟩),.agg (gC C),.int .i64 a] w λe w'=>e=.returned (.int .i64 (jB G C a))/\Below w.heap.size w w':=by
 have bD:Hid (rL (w.alloc (.cells (gC C) 125)) w.heap.size C):=⟨zF _ _,hC⟩;have bC:Hid (rL (w.alloc (.cells (gC C) 125)) g G):=h.new _;have au:Hid (Below w.heap.size w (w.alloc (.cells (gC C) 125))):=fk (tg _) _;clear h hC
 go_enter func120,ntmps120
 go_wp2_with fail
 generalize w.alloc (.cells (gC C) 125)=w1 at *;generalize hb:w.heap.size=b at *;have HB:=zA hb;clear hb
 go_loop [7] (λkv=>∃(k:Nat),k<=8/\kv=.int .i64 k/\Hid (rq G C a (8-k) k=jB G C a)) (λkv=>8-(intOf kv).toNat)
 case atStart=>exact⟨0,by omega,rfl,zA rfl⟩
 case round =>
  obtain⟨k,hk,rfl,HE⟩:=hrel;by_cases aM:k<8
  ·have c1:=bC.out.cell (k:=a*8+k) (by omega)
   have c2:=bD.out.cell (k:=k*8+a) (by omega);have hE:=HE.out;rw[SP G C a k aM]at hE;unfold gA at hE;have aA:=zA hE;clear HE hE;generalize G.getD (a*8+k) false=z1 at *;generalize C.getD (k*8+a) false=z2 at *;cases z1
   ·have aD:Hid (rq G C a (8-(k+1)) (k+1)=jB G C a):=aA.out
    clear aA;go_wp2_with fail
    go_round
    case rel=>exact⟨k+1,by omega,by go_num,aD⟩
    case measure=>simp[intOf];omega
   ·cases z2
    ·have aD:Hid (rq G C a (8-(k+1)) (k+1)=jB G C a):=aA.out
     clear aA;go_wp2_with fail
     go_round
     case rel=>exact⟨k+1,by omega,by go_num,aD⟩
     case measure=>simp[intOf];omega
    ·have aD:Hid (jB G C a=k):=aA.out.symm
     clear aA;go_wp2_with fail
     go_ret
     exact⟨yY (by rw[aD.out]),by rw[HB.out];exact au.out⟩
  ·have aD:Hid (jB G C a=a):=by have:=HE.out;rw[show 8-k=0 by omega]at this;exact this.symm
   clear HE;go_wp2_with fail
   go_ret
   exact⟨yY (by rw[aD.out]),by rw[HB.out];exact au.out⟩
def ZC(L:List Nat):List Value:=L.map λa=>Value.int .i64 (a:Nat)
theorem uc(L:List Nat)(a:Nat):ZC (L++[a])=ZC L++[.int .i64 (a:Nat)]:=by simp[ZC]
theorem Nt:(prog.info? 3).map (λi=>(i.zero,i.size,i.bytes))=some (some (.int .i64 0),1,8):=by kernel_rfl
theorem Qg{G C:List Bool}{a:Nat}(h:a<8):jB G C a<8:=Mj G C a h 8 0 rfl
theorem qu(f:Nat->Nat)(a n:Nat)(r:List Nat)(x:Nat):V2 f a (n+1) r x=if x≠a/\r.length<8 then V2 f a n (r++[x]) (f x) else r:=rfl
theorem jU{w w':World}{B:Nat}{e:TypeId}{size:Nat}{v:Value}{n:Nat}{xs:List Value}(h:w.ownsRow B e size v n xs)(hb:Below w.heap.size w w'):w'.ownsRow B e size v n xs:=by
 refine⟨h.1,?_⟩;rcases h.2 with h1|⟨g,cap,yB,h1,h2,h3,r⟩
 ·exact .inl h1
 ·refine .inr ⟨g,cap,yB,h1,h2,?_,r⟩
  have aM:g<w.heap.size:=by
   rcases mc g w.heap.size with h|h
   ·exact h
   ·rw[pw h]at h3;cases h3
  rw[hb.block g aM];exact h3
def H7:Value->Nat
 | .slice _ n _=>n
 | _=>0
structure zG3(w:World)(a:Option Addr)(L:List Nat):Prop where
 blk:0<L.length->∃g,a=some ⟨g,0,none⟩/\∀i,i<L.length->w.cell? ⟨g,i,none⟩=some (.int .i64 ((L.getD i 0:Nat):Int))
theorem Rh(L:List Nat)(i:Nat)(h:i<L.length):(ZC L)[i]? = some (.int .i64 ((L.getD i 0:Nat):Int)):=by
 simp[ZC,List.getD,h]
theorem Xm{w:World}{B:Nat}{v:Value}{L:List Nat}(h:w.ownsRow B 3 1 v L.length (ZC L)):∃a c,v=.slice a L.length c/\zG3 w a L:=by
 rcases h.2 with ⟨h1,h2⟩|⟨g,cap,yB,h1,_,h3,_,_,_,h7⟩
 ·exact⟨none,0,by rw[h1,h2],⟨λh0=>by omega⟩⟩
 ·exact⟨some ⟨g,0,none⟩,cap,h1,⟨λ_=>⟨g,rfl,λi hi=>xL h3 (n:=L.length*1) h7 (Rh L i hi)⟩⟩⟩
theorem FI(B:Nat)(hB:B<=w.heap.size)(e:TypeId)(cs:Array Value)(hm:cs.size<=maxLen):(w.alloc (.cells cs e)).ownsRow B e 1 (.slice (some ⟨w.heap.size,0,none⟩) cs.size cs.size) cs.size cs.toList :=
 ⟨by simp,.inr ⟨w.heap.size,cs.size,cs,rfl,hB,zF _ _,tg _,hm,by simp,by rw[Nat.mul_one];exact f8 (by simp)⟩⟩
theorem GE(g:Nat)(G:List Bool)(h:rL w g G) :
 Calls prog 78 #[.pointer (some ⟨g,0,none⟩)] w λe w'=>∃v,e=.returned v/\w'.ownsRow w.heap.size 3 1 v (tO G).length (ZC (tO G))/\Below w.heap.size w w':=by
 obtain⟨i0,ai,hz0,hz1,aS⟩:=du Nt;have HG:=zA h;have bE:=zA (QP w g G h);have ae:(zT G).length=64:=by unfold zT;rw[gW];exact h.2
 have aF:=zA ae;have bJ:lH (zT G)<=8:=Rt (zT G) 8 0 rfl;have HR:Hid (tO G=if lH (zT G)=8 then [] else XR (jB G (zT G)) (eV (jB G (zT G)) 8 (lH (zT G)))):=rfl;have a7:=h.lt;obtain⟨B,hB⟩:∃B,B=w.heap.size:=⟨_,rfl⟩;have aC:=zA hB;clear h ae hB;generalize tO G=aH at *;generalize zT G=C at *
 go_enter func78,ntmps78
 go_wp2_with fail
 refine bE.out.mono ?_;rintro e w1 ⟨rfl,hb1⟩;have aP:=zA hb1;have hs1:=hb1.size;clear hb1
 go_wp2_with (refine wpList_store_row ?aG 125 (.tmp 3) (.tmp 9) ?ho w1.heap.size (gC C) ?hx ?hy 125 (gC gZ) (zF w1 _) (qF aF.out) ?aw (jW C) ?_
              case ho=>rfl
              case aG=>rfl
              case hx=>rfl
              case hy=>rfl
              case aw=>rw[xK,xK,yX,aF.out])
 refine(YP _ w1.heap.size C ⟨l9 _ _ (gC gZ) _ (zF w1 _),aF.out⟩).mono ?_;rintro e w2 ⟨rfl,hw⟩;have aJ:Hid (Below B w w2):=by rw[hw,aC.out];exact yK (aP.out.alloc aP.out.size _) aP.out.size _
 have ar:Hid (rL w2 w1.heap.size C):=by rw[hw];exact⟨l9 _ _ (gC gZ) _ (zF w1 _),aF.out⟩
 have bK:B<=w1.heap.size:=by rw[aC.out];exact hs1
 generalize w1.heap.size=b at *;clear hw aP hs1;generalize lH C=s at *;by_cases hs:s=8
 ·have HA:Hid (aH=[]):=by unfold Hid;rw[HR.out,tr hs]
  subst hs;clear HR;go_wp2_with fail
  go_ret
  have aa:B<=w2.heap.size:=by have:=aJ.out.size;have h2:=aC.out;omega
  refine⟨_,rfl,?_,by rw[<-aC.out];exact aJ.out.alloc aa _⟩;rw[HA.out,<-aC.out];exact FI w2 B aa 3 #[] (p8)
 ·have HA:Hid (aH=XR (jB G C) (eV (jB G C) 8 s)):=by unfold Hid;rw[HR.out,tj hs]
  have ay:s<8:=by omega
  have bs:((s:Int)==8)=false:=by simp;omega
  have a8:=ar.out.lt;have aB:B<=w2.heap.size:=by have:=aJ.out.size;have h2:=aC.out;omega
  have aW:Hid (∀w',Below w2.heap.size w2 w'->∀x:Nat,x<8->Calls prog 120 #[.pointer (some ⟨g,0,none⟩),.agg (gC C),.int .i64 x] w' λe w''=>e=.returned (.int .i64 (jB G C x))/\Below w'.heap.size w' w''):=λw' hb x hx=>by
   refine Va w' g G C x hx ⟨?_,HG.out.2⟩ aF.out;have h1:Below B w w':=aJ.out.trans (hb.mono aB);rw[h1.block g (by rw[aC.out];exact a7)];exact HG.out.1
  have aX:Hid (∀w',Below w2.heap.size w2 w'->w'.heap[b]? = some (.cells (gC C) 125 (0,0))):=λw' hb=>by rw[hb.block b a8];exact ar.out.1
  clear HR hs;go_wp2_with fail
  go_loopw [4,5] (λav sv wr=>∃(i x:Nat),i<=8/\x<8/\av=.int .i64 x/\sv=.int .i64 i/\Hid (Below w2.heap.size w2 wr)/\Hid (eV (jB G C) (8-i) x=eV (jB G C) 8 s)) (λ_ sv _=>8-(intOf sv).toNat)
  case atStart=>exact⟨0,s,by omega,ay,rfl,rfl,zA (tl _ _),zA rfl⟩
  case round =>
   obtain⟨i,x,hi,hx,rfl,rfl,HB,HE⟩:=hrel;by_cases aM:i<8
   ·have aA:Hid (eV (jB G C) (8-(i+1)) (jB G C x)=eV (jB G C) 8 s):=by have:=HE.out;rw[show 8-i=(8-(i+1))+1 by omega,eV]at this;exact this
    have aU:=Qg (G:=G) (C:=C) hx;have HN:=zA (aW.out wr HB.out x hx);clear HE;generalize jB G C x=y at *
    go_wp2_with (refine wpList_load_row ?aG 125 (.tmp 3) ?ho b ?hx 125 (gC C) (0,0) _ (aX.out _ HB.out) underlying125 rfl (qF aF.out) ?_
                 case ho=>rfl
                 case aG=>rfl
                 case hx=>rfl)
    refine HN.out.mono ?_;rintro e w3 ⟨rfl,aI⟩;have aY:Hid (Below w2.heap.size w2 w3):=HB.out.trans (aI.mono HB.out.size);clear aI;go_wp2_with fail
    go_roundw
    case rel=>exact⟨i+1,y,by omega,aU,rfl,by go_num,aY,aA⟩
    case measure=>simp[intOf];omega
   ·have bG:Hid (aH=V2 (jB G C) x 8 [x] (jB G C x)):=by
     have:=HE.out;rw[show 8-i=0 by omega]at this;have h2:x=eV (jB G C) 8 s:=this;unfold Hid;rw[HA.out,<-h2];rfl
    have aU:=Qg (G:=G) (C:=C) hx;have aZ:w2.heap.size<=wr.heap.size:=HB.out.size;have aK:Hid (∀o,Below w2.heap.size w2 (wr.alloc o)):=λo=>HB.out.alloc aZ o;have ao:Hid ((wr.alloc (.cells #[.int .i64 (x:Int)] 3)).ownsRow w2.heap.size 3 1 (.slice (some ⟨wr.heap.size,0,none⟩) 1 1) 1 [.int .i64 (x:Int)]):=FI wr w2.heap.size aZ 3 #[.int .i64 (x:Int)] (show 1<=maxLen by unfold maxLen;decide);have HN:=zA (λo=>aW.out _ (aK.out o) x hx);clear HE HA
    go_wp2_with (refine wpList_load_row ?aG 125 (.tmp 3) ?ho b ?hx 125 (gC C) (0,0) _ (aX.out _ (aK.out _)) underlying125 rfl (qF aF.out) ?_
                 case ho=>rfl
                 case aG=>rfl
                 case hx=>rfl)
    refine(HN.out _).mono ?_;rintro e w3 ⟨rfl,aI⟩;have aY:Hid (Below w2.heap.size w2 w3):=(aK.out _).trans (aI.mono (aK.out _).size);have bB:Hid (w3.ownsRow w2.heap.size 3 1 (.slice (some ⟨wr.heap.size,0,none⟩) 1 1) 1 [.int .i64 (x:Int)]):=jU ao.out aI;clear aI ao HN aK;obtain⟨wm,ax⟩:∃wm,wm=wr:=⟨_,rfl⟩;subst ax;go_wp2_with fail
    go_loopw [6,7] (λrv yv wr=>∃(r:List Nat) (y n:Nat),n+r.length=9/\1<=r.length/\r.length<=8/\y<8/\yv=.int .i64 y/\Hid (wr.ownsRow w2.heap.size 3 1 rv r.length (ZC r))/\Hid (Below w2.heap.size w2 wr)/\Hid (V2 (jB G C) x n r y=aH)) (λrv _ _=>9-H7 rv)
    case atStart=>exact⟨[x],jB G C x,8,rfl,tg _,show 1<=8 by decide,aU,rfl,bB,aY,zA bG.out.symm⟩
    case round =>
     obtain⟨r,y,n,hn,bI,bH,hy,rfl,HO,aL,HE⟩:=hrel;obtain⟨n',rfl⟩:∃n',n=n'+1:=⟨n-1,by omega⟩;obtain⟨ra,rc,rfl,_⟩:=Xm HO.out;have aT:w2.heap.size<=wr.heap.size:=aL.out.size;have hE:=HE.out;rw[qu]at hE;have aA:=zA hE;clear HE hE;by_cases k1:y=x
     ·have HF:Hid (r=aH):=by have:=aA.out;rw[tj (λh=>h.1 k1)]at this;exact this
      have b1:((y:Int)==(x:Int))=true:=(by simp;omega);clear aA;go_wp2_with fail
      go_ret
      refine⟨_,rfl,?_,?_⟩
      ·rw[<-HF.out];exact yN HO.out (by rw[<-aC.out];exact aB)
      ·rw[<-aC.out];exact aJ.out.trans (aL.out.mono aB)
     ·have b1:((y:Int)==(x:Int))=false:=by simp;omega
      by_cases k2:r.length<8
      ·have aD:Hid (V2 (jB G C) x n' (r++[y]) (jB G C y)=aH):=by have:=aA.out;rw[tr ⟨k1,k2⟩]at this;exact this
       have az:=Qg (G:=G) (C:=C) hy;have i2:(r.length:Int)<8:=(by omega);clear aA
       go_wp2_with (first
        | (at_builtin;refine wpList_append_own _ rfl _ _ 22 rfl w2.heap.size 3 i0 _ 1 8 underlying22 ai hz0 hz1 aS rfl (by decide) _ _ _ rfl (HO.out.alloc _) ⟨wr.heap.size,0,none⟩ 1 1 [.int .i64 (y:Int)] rfl rfl ?c1 ?c2 ?c3 ?c4 ?c5 ?_))
       case c1=>exact zM _ _ _ _ rfl
       case c2=>intro u hu;simp at hu;subst hu;rfl
       case c3=>unfold maxLen;omega
       case c4=>omega
       case c5=>simp;omega
       intro v' w4 af ag _;have aO:Hid (Below w2.heap.size w2 w4):=(aL.out.alloc aT _).grown ag (by simp;omega) (zS HO.out);have aq:Hid (w4.ownsRow w2.heap.size 3 1 v' (r++[y]).length (ZC (r++[y]))):=by unfold Hid;rw[uc];simpa using af
       have HN:=zA (aW.out w4 aO.out y hy);clear ag af;obtain⟨va,vc,rfl,_⟩:=Xm aq.out
       go_wp2_with (refine wpList_load_row ?aG 125 (.tmp 3) ?ho b ?hx 125 (gC C) (0,0) _ (aX.out _ aO.out) underlying125 rfl (qF aF.out) ?_
                    case ho=>rfl
                    case aG=>rfl
                    case hx=>rfl)
       refine HN.out.mono ?_;rintro e w5 ⟨rfl,aV⟩;have bF:Hid (Below w2.heap.size w2 w5):=aO.out.trans (aV.mono aO.out.size);have bA:=zA (jU aq.out aV);clear aV;go_wp2_with fail
       go_roundw
       case rel=>exact⟨r++[y],jB G C y,n',by simp;omega,by simp,by simp;omega,az,rfl,by have h:=bA;simp only[tm,pu]at h ⊢;exact h,bF,aD⟩
       case measure=>simp[H7];omega
      ·have HF:Hid (r=aH):=by have:=aA.out;rw[tj (λh=>k2 h.2)]at this;exact this
       have i2:¬(r.length:Int)<8:=(by omega);clear aA;go_wp2_with fail
       go_ret
       refine⟨_,rfl,?_,?_⟩
       ·rw[<-HF.out];exact yN HO.out (by rw[<-aC.out];exact aB)
       ·rw[<-aC.out];exact aJ.out.trans (aL.out.mono aB)
end Go.Proofs.YtnbpdffdnphbeabGreatDoor
