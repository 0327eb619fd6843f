import Derived.Test.YtnbpdffdnphbeabGreatDoorFAbove
import Derived.ProofKit
import Derived.OpenShut
import Derived.Carry
import Derived.Deep.Strs
open Go.Proofs.Tryz
set_option maxRecDepth 100000
namespace Go.Proofs.YtnbpdffdnphbeabGreatDoor
open Go.RowKit
variable {M:yO} {G:Nat->GR}
variable{l:Bs}{cs:List Value}{fuel:Nat}
theorem QT(M:yO)(i j:Nat):VI M i j ↔ AO M (zT (tH M)) i j=true:=by
 unfold VI AO uW;rw[ma,ma,ma,ml,ml];simp
theorem ke(h:yR M)(hG:∀i,i<M.rules.length->eI (xP M.aa (uW M i).head) (uW M i) (G i)){rs:List MX}(hr:rs.map Prod.fst=uJ ((yC (yM M G)).map yA.name) ((xR (yM M G)).map Prod.fst) (yM M G)):(∃i j,K3 (yC (yM M G)) (xR (yM M G)).length rs (Xv (yM M G)) i j) ↔ Fq M:=by
 constructor
 ·rintro⟨i,j,hc⟩
  obtain⟨h1,h2,h3,h4⟩:=(DH h hG hr i j).1 hc;exact⟨i,j,h1,h2,(QT M i j).1 h3,h4⟩
 ·rintro⟨i,j,h1,h2,h3,h4⟩
  exact⟨i,j,(DH h hG hr i j).2 ⟨h1,h2,(QT M i j).2 h3,h4⟩⟩
theorem CF(h:yR M)(lo:Bool)(ht:tw l=(xY M lo).flatten)(hl:l.length<=4000):∃G:Nat->GR,FrG M G/\∀w,Calls prog 50 #[.string ⟨l.toArray⟩] w λe w'=>lO (yM M G) w w' e:=by
 obtain⟨G,hG,e1,e2⟩:=DI h lo ht;have aH:∀x∈(yZ l).1,bG x:=by rw[e1];exact RP h hG
 have af:(yZ l).1.length<=10000:=by
  rw[e1];have h8:=h.aj;have ao:=FJ h;unfold yM;rw[tm,tm,pt,pt,pt,nl,nl];omega
 have hnd:∀x∈(yZ l).1,x.nd.length<=10000:=by rw[e1];exact MH hG
 have aV:uE (yZ l).1=(0,0):=by rw[e1];exact YM h hG
 have hR:=λw=>K1 l w hl e2 aH af hnd FT;have hc:jN (yZ l).1:=Er (by rw[aV]);have hm:=Iu hc aH;have aY:=λw=>(hR w).mono λe w' q=>q.2 (by rw[aV]);rw[e1]at hc hm aY aH;exact⟨G,⟨hG,hc,hm,aH⟩,aY⟩
theorem Lc(h:yR M)(hF:FrG M G)(hR:∀w,Calls prog 50 #[.string ⟨l.toArray⟩] w λe w'=>lO (yM M G) w w' e)(w:World):Calls prog 27 #[.string ⟨l.toArray⟩,.bool true] w λe w'=>Below w.heap.size w w'/\((∃(b:Nat) (rs:List MX),e=.returned (.tuple #[.pointer (some ⟨b,0,none⟩),.int .i64 0])/\K4 w' b (yM M G) rs/\¬Fq M)\/(e=.returned (.tuple #[.pointer none,.int .i64 8])/\Fq M)):=by
 refine(iB l w (yM M G) hF.mod (hR w)).mono ?_;rintro e w' ⟨rs,hr,hb,⟨b,rfl,hB,hn⟩|⟨rfl,i,j,hy⟩⟩
 ·exact⟨hb,.inl ⟨b,rs,rfl,hB,λq=>by obtain⟨i,j,aL⟩:=(ke h hF.gr hr).2 q;exact hn i j aL⟩⟩
 ·exact⟨hb,.inr ⟨rfl,(ke h hF.gr hr).1 ⟨i,j,hy⟩⟩⟩
theorem MW(h:yR M)(lo:Bool)(ht:tw l=(xY M lo).flatten)(hl:l.length<=4000)(w:World):Calls prog 27 #[.string ⟨l.toArray⟩,.bool true] w λe w'=>LN M w w' e:=by
 obtain⟨G,hF,hR⟩:=CF h lo ht hl;refine(Lc h hF hR w).mono ?_;rintro e w' ⟨hb,⟨b,rs,rfl,-,hn⟩|⟨rfl,hy⟩⟩
 ·exact⟨hb,.inl ⟨b,rfl,hn⟩⟩
 ·exact⟨hb,.inr ⟨rfl,hy⟩⟩
def AD(M:yO)(j:Nat):Bs:=if j<5 then xC j else xU 99 (M.aa.getD (j-5) 0)
def ry(f:Nat->Int)(g:Nat->Bool)(j:Nat):Int:=if j<5 then f j else if g (j-5)=true then 1 else 0
theorem I3(h:yR M)(hc:jN (yM M G))(f:Nat->Int)(g:Nat->Bool):tU (yC (yM M G)) f (yC (yM M G)).length++mX (xR (yM M G)) g (xR (yM M G)).length=CJ (5+M.aa.length) (AD M) (ry f g):=by
 have aG:(xR (yM M G)).length=M.aa.length:=by rw[sI hc,bQ h,pt]
 rw[dL,aG];unfold CJ;rw[List.range_add,lk,List.flatMap_map];congr 1
 ·unfold tU
  rw[List.flatMap_def,List.flatMap_def];congr 1
  refine List.map_congr_left λj hj=>?_;have aK:=me.1 hj;unfold AD ry;rw[oO aK,iX,nP,tr aK,tr aK]
 ·unfold mX
  rw[List.flatMap_def,List.flatMap_def];congr 1
  refine List.map_congr_left λj hj=>?_;have ah:=me.1 hj
  have e1:((xR (yM M G)).getD j ([],0)).1=xU 99 (M.aa.getD j 0):=by
   have h2:((xR (yM M G)).map Prod.fst).getD j []=(M.aa.map (xU 99)).getD j []:=(by rw[Zy hc,bQ h]);have ai:j<(xR (yM M G)).length:=(by omega);simpa[List.getD,ai,ah] using h2
  show _=([.string ⟨(AD M (5+j)).toArray⟩,.int .i64 (ry f g (5+j))]:List Value);unfold AD ry;rw[e1,tj (show ¬ 5+j<5 by omega),tj (show ¬ 5+j<5 by omega),show 5+j-5=j by omega]
theorem L3(h:yR M)(hF:FrG M G)(hR:∀w,Calls prog 50 #[.string ⟨l.toArray⟩] w λe w'=>lO (yM M G) w w' e)(w:World):Calls prog 29 #[.string ⟨l.toArray⟩] w λe w'=>IW M w w' e:=by
 have hG:=hF.gr;have hc:=hF.calm;have hm:=hF.mod;have h8:=h.aj;refine(dE l w (yM M G) hm (hR w)).mono ?_;rintro e w' ⟨rs,hr,hb,⟨rfl,hn⟩|⟨i,j,f,g,la,sa,sc,rfl,hf,aT,aR,aF,aN,aM⟩⟩
 ·exact .inl ⟨rfl,λq=>by obtain⟨i,j,aL⟩:=(ke h hG hr).2 q;exact hn i j aL,hb⟩
 ·replace aF:wW (yC (yM M G)) (xR (yM M G)).length (XI (yC (yM M G)) (xR (yM M G)).length f g):=aF.room
  obtain⟨h1,h2,h3,-⟩:=(DH h hG hr i j).1 hf.1;have aG:(xR (yM M G)).length=M.aa.length:=by rw[sI hc,bQ h,pt]
  obtain⟨ag,aX⟩:=U5 hc hr;rw[DF,pt,nl]at ag aX
  have aB:∀k,k<M.rules.length->(qW rs k).1=qT sO (M.aa.map (xU 99)) (rD (uW M k) k (G k)):=λk hk=>by
   rw[aX k hk,Gu,bQ h];congr 1
   simp[List.getD,hk]
  rw[I3 h hc]at aR;rw[aB i (by omega),aB j h2]at aT;rw[aB i (by omega),aG]at aN;rw[aB j h2,aG]at aM;rw[aG]at aF;have aQ:∀k,k<3->0<=zQ sO (xC k):=λk hk=>by rw[D6 k (by omega)];omega
  have aU:∀d,d<4->zQ sO (xU 99 d)<0:=λd hd=>by rw[Ik d hd];decide
  have aJ:=dL M G
  have aD:∀k,k<5->(XI (yC (yM M G)) M.aa.length f g).inputs.getD k 0=f k:=λk hk=>by
   show ((List.range (yC (yM M G)).length).map f).getD k 0=f k;rw[aJ];simp[List.getD,hk]
  refine .inr ⟨(ke h hG hr).1 ⟨i,j,hf.1⟩,i,j,AD M,ry f g,la,sa,sc,by rw[aJ,aG],⟨h1,h2,(QT M i j).1 h3⟩,aT,aR.Hs.ay,⟨λk hk=>by unfold AD;rw[tr hk],λk hk=>by unfold AD;rw[i6,show 5+k-5=k by omega],λk hk=>?_,λk hk=>?_⟩,λv hv1 ae=>?_,hb⟩
  ·have q:=aF.num k (by omega) (by unfold xZ;rw[oO (by omega),dM hk];rfl)
   rw[oO (by omega),dM hk,aD k (by omega)]at q;unfold ry;rw[u'];exact q
  ·unfold ry
   by_cases h5:k<5
   ·rw[tr h5]
    have q:=aF.flag k (by omega) (by unfold xZ;rw[oO h5,iY (by omega)];rfl);rw[aD k h5]at q;exact q
   ·rw[tj h5]
    split
    ·exact .inr rfl
    ·exact .inl rfl
  ·have hE:J9 M.aa v (ZI sO (M.aa.map (xU 99)) (XI (yC (yM M G)) M.aa.length f g)):=by
    refine⟨λk hk=>?_,λd hd=>?_⟩
    ·rw[QK _ _ (by rw[aF.inl,aJ]) hk,aD k hk,hv1 k hk]
     unfold ry;rw[tr hk]
    ·show jO ((List.range M.aa.length).map g) (zQ (M.aa.map (xU 99)) (xU 99 d))=_
     obtain⟨a,ha,e1,e2⟩:=aS (l:=M.aa.map (xU 99)) (pd.2 ⟨d,hd,rfl⟩);rw[pt]at ha
     have h4:∀x∈M.aa,x<4:=λx hx=>by
      rw[h.aa]at hx;rcases(dP (M.rules.map vR.head) [] (x:=x)).1 hx with q|q
      ·cases q
      ·obtain⟨r,hr,rfl⟩:=pd.1 q;exact(h.rules r hr).head
     have e3:M.aa[a]=d:=by
      rw[mq,List.getElem?_map,pm ha]at e2;exact V4 _ (h4 _ (dq ha)) d (h4 d hd) e2
     have e4:M.aa.getD a 0=d:=(by simp[List.getD,ha,e3]);rw[e1,sN (by omega) (by simp;omega),fm];have q:=ae a ha;rw[e4]at q;rw[q];have e5:((List.range M.aa.length).map g).getD a false=g a:=(by simp[List.getD,ha]);rw[e5];unfold ry;rw[i6,show 5+a-5=a by omega];cases g a <;> rfl
   refine⟨?_,?_⟩
   ·rw[Kv h (by omega) (hG i (by omega)) aQ aU hE]at aN;exact aN
   ·rw[Kv h h2 (hG j h2) aQ aU hE]at aM;exact aM
theorem NS(h:yR M)(lo:Bool)(ht:tw l=(xY M lo).flatten)(hl:l.length<=4000)(w:World):Calls prog 29 #[.string ⟨l.toArray⟩] w λe w'=>IW M w w' e:=by
 obtain⟨G,hF,hR⟩:=CF h lo ht hl;exact L3 h hF hR w
open Go.ChangeShapes Go.WideShapes Go.ChangeAt Go.WideMaps Go.WideElems
theorem E2:prog.cellsOf 3=1:=by kernel_rfl
theorem IM:prog.cellsOf 4=1:=by kernel_rfl
theorem IQ:prog.cellsOf 22=1:=by kernel_rfl
theorem Mr:prog.cellsOf 23=1:=by kernel_rfl
theorem Ms:prog.cellsOf 79=1:=by kernel_rfl
theorem IP:prog.cellsOf 81=5:=by kernel_rfl
theorem IU:prog.cellsOf 151=8:=by kernel_rfl
theorem Lh:prog.cellsOf 25=3:=by kernel_rfl
theorem Kc{c:Int}(h:(Lit.int .i64 c).wf=true):pA c:=by
 simp[Lit.wf,IntKind.min,IntKind.max,IntKind.signed,IntKind.bits]at h;unfold pA;omega
theorem oS{w:World}{a:Addr}{v:Value}(h:w.cell? a=some v):a.spot=none:=by
 unfold World.cell? at h
 cases hs:a.spot with
 | none=>rfl
 | some x=>rw[hs]at h;split at h <;> simp at h
theorem V8(b o i:Nat):(⟨b,o,none⟩:Addr).add i=⟨b,o+i,none⟩:=by simp[Addr.add]
section
variable {H:Type} {enc:TypeId × Value->H} {W:World}
theorem Qt{x:DataW H × List MemPlace}(h:DataW.trod enc prog W 0 (λ_=>true) true fuel 22 cs=some x):∃a n c,cs=[.slice a n c]/\dG W a n:=by
 rcases open_ints underlying22 underlying3 E2 h with ⟨aA,_⟩|⟨ad,len,aO,zs,aA,_,hl,hm,hz,_,aP,aZ⟩
 ·exact⟨none,0,0,aA,λ_=>0,⟨λh=>x' h (by omega),by unfold maxLen;omega,λi hi=>x' hi (by omega)⟩⟩
 ·simp only[dj]at hz
  refine⟨some ad,len,aO,aA,λi=>zs.getD i 0,⟨λh=>?_,by omega,λi hi=>?_⟩⟩
  ·have hs:=oS (aP 0 (by omega))
   have hs:ad.spot=none:=(by simpa[Addr.add] using hs);obtain⟨b,off,spot⟩:=ad;obtain rfl:spot=none:=hs;refine⟨b,off,rfl,λi hi=>?_⟩;have:=aP i (by omega);rw[V8]at this;exact this
  ·have hi':i<zs.length:=by omega
   refine Kc (aZ _ ?_);show zs.getD i 0∈zs;rw[mq,pm hi'];exact dq hi'
theorem fA{c:Value}{x:Option (DataW H × List MemPlace)}{y:DataW H × List MemPlace}(h:DataW.trod enc prog W 0 (λ_=>true) true fuel 3 [c]=x)(hx:x=some y):∃z,c=.int .i64 z/\pA z:=by
 rw[hx]at h;obtain⟨n,h1,_,h2⟩:=DataW.trod_int underlying3 h;injection h1 with h1 _
 exact⟨n,h1,Kc h2⟩
theorem aW{c:Value}{x:Option (DataW H × List MemPlace)}{y:DataW H × List MemPlace}(h:DataW.trod enc prog W 0 (λ_=>true) true fuel 4 [c]=x)(hx:x=some y):∃b,c=.bool b:=by
 rw[hx]at h;obtain⟨b,h1,_⟩:=DataW.trod_bool underlying4 h;injection h1 with h1 _
 exact⟨b,h1⟩
theorem S3{x:DataW H × List MemPlace}(h:DataW.trod enc prog W 0 (λ_=>true) true fuel 151 cs=some x):∃(b1 b2 b3:Bool) (k x y mk n:Int),cs=[.bool b1,.bool b2,.bool b3,.int .i64 k,.int .i64 x,.int .i64 y,.int .i64 mk,.int .i64 n]/\(pA k/\pA x/\pA y/\pA mk/\pA n):=by
 obtain⟨xs,m,_,rfl,hl,aC,hf⟩:=DataW.trod_struct underlying151 h;rw[IU]at hl
 match cs,hl with
 | [c0,c1,c2,c3,c4,c5,c6,c7],_ =>
   match xs,aC with
   | [y0,y1,y2,y3,y4,y5,y6,y7],_ =>
     have g0:DataW.trod enc prog W 0 (λ_=>true) true m 4 (([c0,c1,c2,c3,c4,c5,c6,c7].drop 0).take (prog.cellsOf 4))=_:=hf 0 _ rfl;have g1:DataW.trod enc prog W 0 (λ_=>true) true m 4 (([c0,c1,c2,c3,c4,c5,c6,c7].drop 1).take (prog.cellsOf 4))=_:=hf 1 _ rfl;have g2:DataW.trod enc prog W 0 (λ_=>true) true m 4 (([c0,c1,c2,c3,c4,c5,c6,c7].drop 2).take (prog.cellsOf 4))=_:=hf 2 _ rfl;have g3:DataW.trod enc prog W 0 (λ_=>true) true m 3 (([c0,c1,c2,c3,c4,c5,c6,c7].drop 3).take (prog.cellsOf 3))=_:=hf 3 _ rfl;have g4:DataW.trod enc prog W 0 (λ_=>true) true m 3 (([c0,c1,c2,c3,c4,c5,c6,c7].drop 4).take (prog.cellsOf 3))=_:=hf 4 _ rfl;have g5:DataW.trod enc prog W 0 (λ_=>true) true m 3 (([c0,c1,c2,c3,c4,c5,c6,c7].drop 5).take (prog.cellsOf 3))=_:=hf 5 _ rfl;have g6:DataW.trod enc prog W 0 (λ_=>true) true m 3 (([c0,c1,c2,c3,c4,c5,c6,c7].drop 6).take (prog.cellsOf 3))=_:=hf 6 _ rfl;have g7:DataW.trod enc prog W 0 (λ_=>true) true m 3 (([c0,c1,c2,c3,c4,c5,c6,c7].drop 7).take (prog.cellsOf 3))=_:=hf 7 _ rfl;rw[IM]at g0 g1 g2;rw[E2]at g3 g4 g5 g6 g7;obtain⟨b1,rfl⟩:=aW (c:=c0) g0 rfl;obtain⟨b2,rfl⟩:=aW (c:=c1) g1 rfl;obtain⟨b3,rfl⟩:=aW (c:=c2) g2 rfl;obtain⟨k,rfl,w1⟩:=fA (c:=c3) g3 rfl;obtain⟨x,rfl,w2⟩:=fA (c:=c4) g4 rfl;obtain⟨y,rfl,w3⟩:=fA (c:=c5) g5 rfl;obtain⟨mk,rfl,w4⟩:=fA (c:=c6) g6 rfl;obtain⟨n,rfl,w5⟩:=fA (c:=c7) g7 rfl;exact⟨b1,b2,b3,k,x,y,mk,n,rfl,w1,w2,w3,w4,w5⟩
theorem GY{x:DataW H × List MemPlace}(h:DataW.trod enc prog W 0 (λ_=>true) true fuel 79 cs=some x):∃a n c,cs=[.slice a n c]/\J6 W a n:=by
 rcases Deep.open_slice underlying79 h with ⟨aA,_⟩|⟨ad,len,cap,m,n,D,Pl,aA,_,hl,hm,aI,_,hx⟩
 ·exact⟨none,0,0,aA,⟨λh=>x' h (by omega),by unfold maxLen;omega⟩⟩
 ·simp only[dj]at aI
  rw[IU]at hx;refine⟨some ad,len,cap,aA,⟨λh0=>?_,by omega⟩⟩
  have hsp:ad.spot=none:=by
   obtain⟨cs',h1,h2⟩:=hx 0 (by omega);obtain⟨-,aC,hc⟩:=World.cells?_some h1;have:=hc 0 (by omega);rw[pm (by omega)]at this;have:=oS this;simpa[Addr.add] using this
  obtain⟨b,off,spot⟩:=ad;obtain rfl:spot=none:=hsp;refine⟨b,off,rfl,λi hi=>?_⟩;obtain⟨cs',h1,h2⟩:=hx i (by omega);obtain⟨-,aC,hc⟩:=World.cells?_some h1;obtain⟨b1,b2,b3,k,x,y,mk,n,rfl,hw⟩:=S3 h2;simp only[V8]at hc;have q:=hc;exact⟨b1,b2,b3,k,x,y,mk,n,⟨q 0 (by decide),q 1 (by decide),q 2 (by decide),q 3 (by decide),q 4 (by decide),q 5 (by decide),q 6 (by decide),q 7 (by decide)⟩,hw⟩
theorem Sg{x:DataW H × List MemPlace}(h:DataW.trod enc prog W 0 (λ_=>true) true fuel 81 cs=some x):∃(hd:Int) (sa:Option Addr) (sn sc:Nat) (ta:Option Addr) (tn tc:Nat) (b:Bool) (ov:Int),cs=[.int .i64 hd,.slice sa sn sc,.slice ta tn tc,.bool b,.int .i64 ov]/\pA hd/\pA ov/\dG W sa sn/\J6 W ta tn:=by
 obtain⟨xs,m,_,rfl,hl,aC,hf⟩:=DataW.trod_struct underlying81 h;rw[IP]at hl
 match cs,hl with
 | [c0,c1,c2,c3,c4],_ =>
   match xs,aC with
   | [y0,y1,y2,y3,y4],_ =>
     have g0:DataW.trod enc prog W 0 (λ_=>true) true m 3 (([c0,c1,c2,c3,c4].drop 0).take (prog.cellsOf 3))=_:=hf 0 _ rfl;have g1:DataW.trod enc prog W 0 (λ_=>true) true m 22 (([c0,c1,c2,c3,c4].drop 1).take (prog.cellsOf 22))=_:=hf 1 _ rfl;have g2:DataW.trod enc prog W 0 (λ_=>true) true m 79 (([c0,c1,c2,c3,c4].drop 2).take (prog.cellsOf 79))=_:=hf 2 _ rfl;have g3:DataW.trod enc prog W 0 (λ_=>true) true m 4 (([c0,c1,c2,c3,c4].drop 3).take (prog.cellsOf 4))=_:=hf 3 _ rfl;have g4:DataW.trod enc prog W 0 (λ_=>true) true m 3 (([c0,c1,c2,c3,c4].drop 4).take (prog.cellsOf 3))=_:=hf 4 _ rfl;rw[E2]at g0 g4;rw[IQ]at g1;rw[Ms]at g2;rw[IM]at g3;obtain⟨hd,rfl,w0⟩:=fA (c:=c0) g0 rfl;obtain⟨b,rfl⟩:=aW (c:=c3) g3 rfl;obtain⟨ov,rfl,w4⟩:=fA (c:=c4) g4 rfl;obtain⟨sa,sn,sc,e1,r1⟩:=Qt (cs:=[c1]) (x:=y1) g1;obtain⟨ta,tn,tc,e2,r2⟩:=GY (cs:=[c2]) (x:=y2) g2;injection e1 with e1 _
     injection e2 with e2 _
     subst e1 e2;exact⟨hd,sa,sn,sc,ta,tn,tc,b,ov,rfl,w0,w4,r1,r2⟩
theorem zw{x:DataW H × List MemPlace}(h:DataW.trod enc prog W 0 (λ_=>true) true fuel 23 cs=some x):∃a n c hd,cs=[.slice a n c]/\J7 W a n hd:=by
 rcases Deep.open_slice underlying23 h with ⟨aA,_⟩|⟨ad,len,cap,m,n,D,Pl,aA,_,hl,hm,aI,_,hx⟩
 ·exact⟨none,0,0,λ_=>0,aA,⟨λh=>x' h (by omega),by unfold maxLen;omega⟩⟩
 ·simp only[dj]at aI
  rw[IP]at hx;by_cases h0:len=0
  ·exact⟨some ad,len,cap,λ_=>0,aA,⟨λh=>x' h (by omega),by omega⟩⟩
  have hsp:ad.spot=none:=by
   obtain⟨cs',h1,h2⟩:=hx 0 (by omega);obtain⟨-,aC,hc⟩:=World.cells?_some h1;have:=hc 0 (by omega);rw[pm (by omega)]at this;have:=oS this;simpa[Addr.add] using this
  obtain⟨b,off,spot⟩:=ad;obtain rfl:spot=none:=hsp
  have key:∀i,i<len->∃(hd:Int) (sa:Option Addr) (sn sc:Nat) (ta:Option Addr) (tn tc:Nat) (bb:Bool) (ov:Int),(W.cell? ⟨b,off+i*5,none⟩=some (.int .i64 hd)/\W.cell? ⟨b,off+i*5+1,none⟩=some (.slice sa sn sc)/\W.cell? ⟨b,off+i*5+2,none⟩=some (.slice ta tn tc)/\W.cell? ⟨b,off+i*5+3,none⟩=some (.bool bb)/\W.cell? ⟨b,off+i*5+4,none⟩=some (.int .i64 ov))/\pA hd/\pA ov/\dG W sa sn/\J6 W ta tn:=λi hi=>by
   obtain⟨cs',h1,h2⟩:=hx i (by omega);obtain⟨-,aC,hc⟩:=World.cells?_some h1;obtain⟨hd,sa,sn,sc,ta,tn,tc,bb,ov,rfl,w0,w4,r1,r2⟩:=Sg h2;simp only[V8]at hc;have q:=hc;exact⟨hd,sa,sn,sc,ta,tn,tc,bb,ov,⟨q 0 (by decide),q 1 (by decide),q 2 (by decide),q 3 (by decide),q 4 (by decide)⟩,w0,w4,r1,r2⟩
  refine⟨some ⟨b,off,none⟩,len,cap,λi=>if h:i<len then (key i h).choose else 0,aA,⟨λ_=>⟨b,off,rfl,λi hi=>?_⟩,by omega⟩⟩;have:=(key i hi).choose_spec;simp only[dif_pos hi];exact this
theorem ur{r:Reach}{b0:Nat}{v:Value}{d:DataW H}{p:List MemPlace}(hv:Value.okWide prog W r b0 25 v)(h:DataW.Trod enc prog W 0 (λ_=>true) true 25 v d p) :
 ∃la ln lc wa wn wk ra rn rc hd,v=.agg #[.slice la ln lc,.slice wa wn wk,.slice ra rn rc]/\dG W la ln/\dG W wa wn/\J7 W ra rn hd:=by
 obtain⟨cs,rfl,ak⟩:=okWide_struct underlying25 hv;obtain⟨fuel,hf⟩:=h;obtain⟨y0,y1,y2,n,hx,hl,h0,h1,h2⟩:=Deep.trod_struct3 underlying25 hf;rw[Lh]at hl;have aA:(Value.agg cs).cells.toList=cs.toList:=by simp[Value.cells]
 rw[aA]at h0 h1 h2 hl;obtain⟨cs⟩:=cs;simp only at h0 h1 h2 hl
 match cs,hl with
 | [c0,c1,c2],_ =>
   simp only[IQ]at h0 h1;simp only[Mr]at h2;obtain⟨la,ln,lc,e0,r0⟩:=Qt (cs:=[c0]) (x:=y0) h0;obtain⟨wa,wn,wk,e1,r1⟩:=Qt (cs:=[c1]) (x:=y1) h1;obtain⟨ra,rn,rc,hd,e2,r2⟩:=zw (cs:=[c2]) (x:=y2) h2;injection e0 with e0 _
   injection e1 with e1 _
   injection e2 with e2 _
   subst e0 e1 e2;exact⟨la,ln,lc,wa,wn,wk,ra,rn,rc,hd,rfl,r0,r1,r2⟩
end
end Go.Proofs.YtnbpdffdnphbeabGreatDoor
