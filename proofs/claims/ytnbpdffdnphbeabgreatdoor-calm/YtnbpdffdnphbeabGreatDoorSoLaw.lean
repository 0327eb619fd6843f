import Derived.Test.YtnbpdffdnphbeabGreatDoorFAbove
import Derived.ProofKit
import Derived.OpenShut
import Derived.Carry
import Derived.Deep.Strs
set_option maxRecDepth 100000
namespace Go.Proofs.YtnbpdffdnphbeabGreatDoor
open Go.RowKit
variable {M:yC} {G:Nat->GR}
variable{l:Bs}{cs:List Value}{fuel:Nat}
theorem iW(M:yC)(i j:Nat):Kr M i j ↔ zII M (zS (kT M)) i j=true:=by
 unfold Kr zII vU;rw[pj,pj,pj,pt,pt];simp
theorem zEL(h:yD M)(hG:∀i,i<M.rules.length->sN (xH M.heads (vU M i).head) (vU M i) (G i)){rs:List MX}(hr:rs.map Prod.fst=uD ((zR (zX M G)).map zP.name) ((yR (zX M G)).map Prod.fst) (zX M G)):(∃i j,Up (zR (zX M G)) (yR (zX M G)).length rs (Xs (zX M G)) i j) ↔ zF3 M:=by
 constructor
 ·rintro⟨i,j,hc⟩
  obtain⟨h1,h2,h3,h4⟩:=(BJ h hG hr i j).1 hc;exact⟨i,j,h1,h2,(iW M i j).1 h3,h4⟩
 ·rintro⟨i,j,h1,h2,h3,h4⟩
  exact⟨i,j,(BJ h hG hr i j).2 ⟨h1,h2,(iW M i j).2 h3,h4⟩⟩
theorem zGZ(h:yD M)(lo:Bool)(ht:tw l=(vF M lo).flatten)(hl:l.length<=4000):∃G:Nat->GR,zK0 M G/\∀w,Calls Tryz.prog 50 #[.string ⟨l.toArray⟩] w fun e w'=>lE (zX M G) w w' e:=by
 obtain⟨G,hG,e1,e2⟩:=BK h lo ht;have zK9:∀x∈(kL l).1,fX x:=by rw[e1];exact j7 h hG
 have hmn:(kL l).1.length<=10000:=by
  rw[e1];have h8:=h.few;have hov:=CR h;unfold zX;rw[tl,tl,pi,pi,pi,List.length_range,List.length_range];omega
 have hnd:∀x∈(kL l).1,x.nd.length<=10000:=by rw[e1];exact zHZ hG
 have hck:kG (kL l).1=(0,0):=by rw[e1];exact ZE h hG
 have hR:=fun w=>GD l w hl e2 zK9 hmn hnd zDA;have hc:vJ (kL l).1:=zFT (by rw[hck]);have hm:=zH9 hc zK9;have hR2:=fun w=>(hR w).mono fun e w' q=>q.2 (by rw[hck]);rw[e1]at hc hm hR2 zK9;exact⟨G,⟨hG,hc,hm,zK9⟩,hR2⟩
theorem zJD(h:yD M)(hF:zK0 M G)(hR:∀w,Calls Tryz.prog 50 #[.string ⟨l.toArray⟩] w fun e w'=>lE (zX M G) w w' e)(w:World):Calls Tryz.prog 27 #[.string ⟨l.toArray⟩,.bool true] w fun e w'=>Below w.heap.size w w'/\((∃(b:Nat) (rs:List MX),e=.returned (.tuple #[.pointer (some ⟨b,0,none⟩),.int .i64 0])/\mH w' b (zX M G) rs/\¬zF3 M)\/(e=.returned (.tuple #[.pointer none,.int .i64 8])/\zF3 M)):=by
 refine(Qk l w (zX M G) hF.mod (hR w)).mono ?_;rintro e w' ⟨rs,hr,hb,⟨b,rfl,hB,hn⟩|⟨rfl,i,j,hy⟩⟩
 ·exact⟨hb,.inl ⟨b,rs,rfl,hB,fun q=>by obtain⟨i,j,hij⟩:=(zEL h hF.gr hr).2 q;exact hn i j hij⟩⟩
 ·exact⟨hb,.inr ⟨rfl,(zEL h hF.gr hr).1 ⟨i,j,hy⟩⟩⟩
def zGT(M:yC)(j:Nat):Bs:=if j<5 then yK j else yZ 99 (M.heads.getD (j-5) 0)
def zC0(f:Nat->Int)(g:Nat->Bool)(j:Nat):Int:=if j<5 then f j else if g (j-5)=true then 1 else 0
theorem zGU(h:yD M)(hc:vJ (zX M G))(f:Nat->Int)(g:Nat->Bool):tH (zR (zX M G)) f (zR (zX M G)).length++mM (yR (zX M G)) g (yR (zX M G)).length=zIW (5+M.heads.length) (zGT M) (zC0 f g):=by
 have hll:(yR (zX M G)).length=M.heads.length:=by rw[oQ hc,kR h,pi]
 rw[bW,hll];unfold zIW;rw[List.range_add,li,List.flatMap_map];congr 1
 ·unfold tH
  rw[List.flatMap_def,List.flatMap_def];congr 1
  refine List.map_congr_left fun j hj=>?_;have hj5:=pq.1 hj;unfold zGT zC0;rw[dX hj5,aQ,fP,tm hj5,tm hj5]
 ·unfold mM
  rw[List.flatMap_def,List.flatMap_def];congr 1
  refine List.map_congr_left fun j hj=>?_;have hjh:=pq.1 hj
  have e1:((yR (zX M G)).getD j ([],0)).1=yZ 99 (M.heads.getD j 0):=by
   have h2:((yR (zX M G)).map Prod.fst).getD j []=(M.heads.map (yZ 99)).getD j []:=by rw[oP hc,kR h]
   have hj2:j<(yR (zX M G)).length:=by omega
   simpa[List.getD,hj2,hjh] using h2
  show _=([.string ⟨(zGT M (5+j)).toArray⟩,.int .i64 (zC0 f g (5+j))]:List Value);unfold zGT zC0;rw[e1,tb (show ¬ 5+j<5 by omega),tb (show ¬ 5+j<5 by omega),show 5+j-5=j by omega]
theorem zIE(h:yD M)(hF:zK0 M G)(hR:∀w,Calls Tryz.prog 50 #[.string ⟨l.toArray⟩] w fun e w'=>lE (zX M G) w w' e)(w:World):Calls Tryz.prog 29 #[.string ⟨l.toArray⟩] w fun e w'=>zB0 M w w' e:=by
 have hG:=hF.gr;have hc:=hF.calm;have hm:=hF.mod;have h8:=h.few;refine(Kd l w (zX M G) hm (hR w)).mono ?_;rintro e w' ⟨rs,hr,hb,⟨rfl,hn⟩|⟨i,j,f,g,la,sa,sc,rfl,hf,hla,hsa,hrm,ha1,ha2⟩⟩
 ·exact .inl ⟨rfl,fun q=>by obtain⟨i,j,hij⟩:=(zEL h hG hr).2 q;exact hn i j hij,hb⟩
 ·obtain⟨h1,h2,h3,-⟩:=(BJ h hG hr i j).1 hf.1
  have hll:(yR (zX M G)).length=M.heads.length:=by rw[oQ hc,kR h,pi]
  obtain⟨hln,hat⟩:=Vg hc hr;rw[Xv,pi,List.length_range]at hln hat
  have hat2:∀k,k<M.rules.length->(jC rs k).1=uX dW (M.heads.map (yZ 99)) (gK (vU M k) k (G k)):=fun k hk=>by
   rw[hat k hk,Yo,kR h];congr 1
   simp[List.getD,hk]
  rw[zGU h hc]at hsa;rw[hat2 i (by omega),hat2 j h2]at hla;rw[hat2 i (by omega),hll]at ha1;rw[hat2 j h2,hll]at ha2;rw[hll]at hrm;have zKF:∀k,k<3->0<=zI dW (yK k):=fun k hk=>by rw[Zd k (by omega)];omega
  have hco:∀d,d<4->zI dW (yZ 99 d)<0:=fun d hd=>by rw[B9 d hd];decide
  have hl5:=bW M G
  have hin5:∀k,k<5->(eN (zR (zX M G)) M.heads.length f g).inputs.getD k 0=f k:=fun k hk=>by
   show ((List.range (zR (zX M G)).length).map f).getD k 0=f k;rw[hl5];simp[List.getD,hk]
  refine .inr ⟨(zEL h hG hr).1 ⟨i,j,hf.1⟩,i,j,zGT M,zC0 f g,la,sa,sc,by rw[hl5,hll],⟨h1,h2,(iW M i j).1 h3⟩,hla,hsa,⟨fun k hk=>by unfold zGT;rw[tm hk],fun k hk=>by unfold zGT;rw[tb (by omega),show 5+k-5=k by omega],fun k hk=>?_,fun k hk=>?_⟩,fun v hv1 hv2=>?_,hb⟩
  ·have q:=hrm.num k (by omega) (by unfold xQ;rw[dX (by omega),mY hk];rfl)
   rw[dX (by omega),mY hk,hin5 k (by omega)]at q;unfold zC0;rw[tm (by omega)];exact q
  ·unfold zC0
   by_cases h5:k<5
   ·rw[tm h5]
    have q:=hrm.flag k (by omega) (by unfold xQ;rw[dX h5,gW (by omega)];rfl);rw[hin5 k h5]at q;exact q
   ·rw[tb h5]
    split
    ·exact .inr rfl
    ·exact .inl rfl
  ·have hE:Qn M.heads v (iS dW (M.heads.map (yZ 99)) (eN (zR (zX M G)) M.heads.length f g)):=by
    refine⟨fun k hk=>?_,fun d hd=>?_⟩
    ·rw[X7 _ _ (by rw[hrm.inl,hl5]) hk,hin5 k hk,hv1 k hk]
     unfold zC0;rw[tm hk]
    ·show kP ((List.range M.heads.length).map g) (zI (M.heads.map (yZ 99)) (yZ 99 d))=_
     obtain⟨a,ha,e1,e2⟩:=fW (l:=M.heads.map (yZ 99)) (p8.2 ⟨d,hd,rfl⟩);rw[pi]at ha
     have h4:∀x∈M.heads,x<4:=fun x hx=>by
      rw[h.heads]at hx;rcases(pI (M.rules.map vP.head) [] (x:=x)).1 hx with q|q
      ·cases q
      ·obtain⟨r,hr,rfl⟩:=p8.1 q;exact(h.rules r hr).head
     have e3:M.heads[a]=d:=by
      rw[pe,List.getElem?_map,p9 ha]at e2;exact XD _ (h4 _ (cx ha)) d (h4 d hd) e2
     have e4:M.heads.getD a 0=d:=by simp[List.getD,ha,e3]
     rw[e1,oT (by omega) (by simp;omega),Int.toNat_natCast];have q:=hv2 a ha;rw[e4]at q;rw[q];have e5:((List.range M.heads.length).map g).getD a false=g a:=by simp[List.getD,ha]
     rw[e5];unfold zC0;rw[tb (by omega),show 5+a-5=a by omega];cases g a <;> rfl
   refine⟨?_,?_⟩
   ·rw[XG h (by omega) (hG i (by omega)) zKF hco hE]at ha1;exact ha1
   ·rw[XG h h2 (hG j h2) zKF hco hE]at ha2;exact ha2
open Go.ChangeShapes Go.WideShapes Go.ChangeAt Go.WideMaps Go.WideElems
theorem yv:Tryz.prog.cellsOf 3=1:=by kernel_rfl
theorem zFC:Tryz.prog.cellsOf 4=1:=by kernel_rfl
theorem zFA:Tryz.prog.cellsOf 22=1:=by kernel_rfl
theorem zGS:Tryz.prog.cellsOf 23=1:=by kernel_rfl
theorem zGR:Tryz.prog.cellsOf 79=1:=by kernel_rfl
theorem zFB:Tryz.prog.cellsOf 81=5:=by kernel_rfl
theorem zF9:Tryz.prog.cellsOf 151=8:=by kernel_rfl
theorem zJ5:Tryz.prog.cellsOf 25=3:=by kernel_rfl
theorem QJ{c:Int}(h:(Lit.int .i64 c).wf=true):jB c:=by
 simp[Lit.wf,IntKind.min,IntKind.max,IntKind.signed,IntKind.bits]at h;unfold jB;omega
theorem eB{w:World}{a:Addr}{v:Value}(h:w.cell? a=some v):a.spot=none:=by
 unfold World.cell? at h
 cases hs:a.spot with
 | none=>rfl
 | some x=>rw[hs]at h;split at h <;> simp at h
theorem Cq(b o i:Nat):(⟨b,o,none⟩:Addr).add i=⟨b,o+i,none⟩:=by simp[Addr.add]
section
variable {H:Type} {enc:TypeId × Value->H} {W:World}
theorem iH{x:DataW H × List MemPlace}(h:DataW.trod enc Tryz.prog W 0 (fun _=>true) true fuel 22 cs=some x):∃a n c,cs=[.slice a n c]/\lF W a n:=by
 rcases open_ints Tryz.underlying22 Tryz.underlying3 yv h with ⟨zKU,_⟩|⟨ad,len,cap',zs,zKU,_,hl,hm,hz,_,hcell,hwz⟩
 ·exact⟨none,0,0,zKU,fun _=>0,⟨fun h=>absurd h (by omega),by unfold maxLen;omega,fun i hi=>absurd hi (by omega)⟩⟩
 ·simp only[f9]at hz
  refine⟨some ad,len,cap',zKU,fun i=>zs.getD i 0,⟨fun h=>?_,by omega,fun i hi=>?_⟩⟩
  ·have hs:=eB (hcell 0 (by omega))
   have hs:ad.spot=none:=by simpa[Addr.add] using hs
   obtain⟨b,off,spot⟩:=ad;obtain rfl:spot=none:=hs;refine⟨b,off,rfl,fun i hi=>?_⟩;have:=hcell i (by omega);rw[Cq]at this;exact this
  ·have hi':i<zs.length:=by omega
   refine QJ (hwz _ ?_);show zs.getD i 0∈zs;rw[pe,p9 hi'];exact cx hi'
theorem cQ{c:Value}{x:Option (DataW H × List MemPlace)}{y:DataW H × List MemPlace}(h:DataW.trod enc Tryz.prog W 0 (fun _=>true) true fuel 3 [c]=x)(hx:x=some y):∃z,c=.int .i64 z/\jB z:=by
 rw[hx]at h;obtain⟨n,h1,_,h2⟩:=DataW.trod_int Tryz.underlying3 h;injection h1 with h1 _
 exact⟨n,h1,QJ h2⟩
theorem sH{c:Value}{x:Option (DataW H × List MemPlace)}{y:DataW H × List MemPlace}(h:DataW.trod enc Tryz.prog W 0 (fun _=>true) true fuel 4 [c]=x)(hx:x=some y):∃b,c=.bool b:=by
 rw[hx]at h;obtain⟨b,h1,_⟩:=DataW.trod_bool Tryz.underlying4 h;injection h1 with h1 _
 exact⟨b,h1⟩
theorem zx{x:DataW H × List MemPlace}(h:DataW.trod enc Tryz.prog W 0 (fun _=>true) true fuel 151 cs=some x):∃(b1 b2 b3:Bool) (k x y mk n:Int),cs=[.bool b1,.bool b2,.bool b3,.int .i64 k,.int .i64 x,.int .i64 y,.int .i64 mk,.int .i64 n]/\(jB k/\jB x/\jB y/\jB mk/\jB n):=by
 obtain⟨xs,m,_,rfl,hl,zKA,hf⟩:=DataW.trod_struct Tryz.underlying151 h;rw[zF9]at hl
 match cs,hl with
 | [c0,c1,c2,c3,c4,c5,c6,c7],_ =>
   match xs,zKA with
   | [y0,y1,y2,y3,y4,y5,y6,y7],_ =>
     have g0:DataW.trod enc Tryz.prog W 0 (fun _=>true) true m 4 (([c0,c1,c2,c3,c4,c5,c6,c7].drop 0).take (Tryz.prog.cellsOf 4))=_:=hf 0 _ rfl;have g1:DataW.trod enc Tryz.prog W 0 (fun _=>true) true m 4 (([c0,c1,c2,c3,c4,c5,c6,c7].drop 1).take (Tryz.prog.cellsOf 4))=_:=hf 1 _ rfl;have g2:DataW.trod enc Tryz.prog W 0 (fun _=>true) true m 4 (([c0,c1,c2,c3,c4,c5,c6,c7].drop 2).take (Tryz.prog.cellsOf 4))=_:=hf 2 _ rfl;have g3:DataW.trod enc Tryz.prog W 0 (fun _=>true) true m 3 (([c0,c1,c2,c3,c4,c5,c6,c7].drop 3).take (Tryz.prog.cellsOf 3))=_:=hf 3 _ rfl;have g4:DataW.trod enc Tryz.prog W 0 (fun _=>true) true m 3 (([c0,c1,c2,c3,c4,c5,c6,c7].drop 4).take (Tryz.prog.cellsOf 3))=_:=hf 4 _ rfl;have g5:DataW.trod enc Tryz.prog W 0 (fun _=>true) true m 3 (([c0,c1,c2,c3,c4,c5,c6,c7].drop 5).take (Tryz.prog.cellsOf 3))=_:=hf 5 _ rfl;have g6:DataW.trod enc Tryz.prog W 0 (fun _=>true) true m 3 (([c0,c1,c2,c3,c4,c5,c6,c7].drop 6).take (Tryz.prog.cellsOf 3))=_:=hf 6 _ rfl;have g7:DataW.trod enc Tryz.prog W 0 (fun _=>true) true m 3 (([c0,c1,c2,c3,c4,c5,c6,c7].drop 7).take (Tryz.prog.cellsOf 3))=_:=hf 7 _ rfl;rw[zFC]at g0 g1 g2;rw[yv]at g3 g4 g5 g6 g7;obtain⟨b1,rfl⟩:=sH (c:=c0) g0 rfl;obtain⟨b2,rfl⟩:=sH (c:=c1) g1 rfl;obtain⟨b3,rfl⟩:=sH (c:=c2) g2 rfl;obtain⟨k,rfl,w1⟩:=cQ (c:=c3) g3 rfl;obtain⟨x,rfl,w2⟩:=cQ (c:=c4) g4 rfl;obtain⟨y,rfl,w3⟩:=cQ (c:=c5) g5 rfl;obtain⟨mk,rfl,w4⟩:=cQ (c:=c6) g6 rfl;obtain⟨n,rfl,w5⟩:=cQ (c:=c7) g7 rfl;exact⟨b1,b2,b3,k,x,y,mk,n,rfl,w1,w2,w3,w4,w5⟩
theorem DM{x:DataW H × List MemPlace}(h:DataW.trod enc Tryz.prog W 0 (fun _=>true) true fuel 79 cs=some x):∃a n c,cs=[.slice a n c]/\Ql W a n:=by
 rcases Deep.open_slice Tryz.underlying79 h with ⟨zKU,_⟩|⟨ad,len,cap,m,n,D,Pl,zKU,_,hl,hm,hmm,_,hx⟩
 ·exact⟨none,0,0,zKU,⟨fun h=>absurd h (by omega),by unfold maxLen;omega⟩⟩
 ·simp only[f9]at hmm
  rw[zF9]at hx;refine⟨some ad,len,cap,zKU,⟨fun h0=>?_,by omega⟩⟩
  have hsp:ad.spot=none:=by
   obtain⟨cs',h1,h2⟩:=hx 0 (by omega);obtain⟨-,zKA,hc⟩:=World.cells?_some h1;have:=hc 0 (by omega);rw[p9 (by omega)]at this;have:=eB this;simpa[Addr.add] using this
  obtain⟨b,off,spot⟩:=ad;obtain rfl:spot=none:=hsp;refine⟨b,off,rfl,fun i hi=>?_⟩;obtain⟨cs',h1,h2⟩:=hx i (by omega);obtain⟨-,zKA,hc⟩:=World.cells?_some h1;obtain⟨b1,b2,b3,k,x,y,mk,n,rfl,hw⟩:=zx h2;simp only[Cq]at hc;have q:=hc;exact⟨b1,b2,b3,k,x,y,mk,n,⟨q 0 (by decide),q 1 (by decide),q 2 (by decide),q 3 (by decide),q 4 (by decide),q 5 (by decide),q 6 (by decide),q 7 (by decide)⟩,hw⟩
theorem xe{x:DataW H × List MemPlace}(h:DataW.trod enc Tryz.prog W 0 (fun _=>true) true fuel 81 cs=some x):∃(hd:Int) (sa:Option Addr) (sn sc:Nat) (ta:Option Addr) (tn tc:Nat) (b:Bool) (ov:Int),cs=[.int .i64 hd,.slice sa sn sc,.slice ta tn tc,.bool b,.int .i64 ov]/\jB hd/\jB ov/\lF W sa sn/\Ql W ta tn:=by
 obtain⟨xs,m,_,rfl,hl,zKA,hf⟩:=DataW.trod_struct Tryz.underlying81 h;rw[zFB]at hl
 match cs,hl with
 | [c0,c1,c2,c3,c4],_ =>
   match xs,zKA with
   | [y0,y1,y2,y3,y4],_ =>
     have g0:DataW.trod enc Tryz.prog W 0 (fun _=>true) true m 3 (([c0,c1,c2,c3,c4].drop 0).take (Tryz.prog.cellsOf 3))=_:=hf 0 _ rfl;have g1:DataW.trod enc Tryz.prog W 0 (fun _=>true) true m 22 (([c0,c1,c2,c3,c4].drop 1).take (Tryz.prog.cellsOf 22))=_:=hf 1 _ rfl;have g2:DataW.trod enc Tryz.prog W 0 (fun _=>true) true m 79 (([c0,c1,c2,c3,c4].drop 2).take (Tryz.prog.cellsOf 79))=_:=hf 2 _ rfl;have g3:DataW.trod enc Tryz.prog W 0 (fun _=>true) true m 4 (([c0,c1,c2,c3,c4].drop 3).take (Tryz.prog.cellsOf 4))=_:=hf 3 _ rfl;have g4:DataW.trod enc Tryz.prog W 0 (fun _=>true) true m 3 (([c0,c1,c2,c3,c4].drop 4).take (Tryz.prog.cellsOf 3))=_:=hf 4 _ rfl;rw[yv]at g0 g4;rw[zFA]at g1;rw[zGR]at g2;rw[zFC]at g3;obtain⟨hd,rfl,w0⟩:=cQ (c:=c0) g0 rfl;obtain⟨b,rfl⟩:=sH (c:=c3) g3 rfl;obtain⟨ov,rfl,w4⟩:=cQ (c:=c4) g4 rfl;obtain⟨sa,sn,sc,e1,r1⟩:=iH (cs:=[c1]) (x:=y1) g1;obtain⟨ta,tn,tc,e2,r2⟩:=DM (cs:=[c2]) (x:=y2) g2;injection e1 with e1 _
     injection e2 with e2 _
     subst e1 e2;exact⟨hd,sa,sn,sc,ta,tn,tc,b,ov,rfl,w0,w4,r1,r2⟩
theorem Fc{x:DataW H × List MemPlace}(h:DataW.trod enc Tryz.prog W 0 (fun _=>true) true fuel 23 cs=some x):∃a n c hd,cs=[.slice a n c]/\Kh W a n hd:=by
 rcases Deep.open_slice Tryz.underlying23 h with ⟨zKU,_⟩|⟨ad,len,cap,m,n,D,Pl,zKU,_,hl,hm,hmm,_,hx⟩
 ·exact⟨none,0,0,fun _=>0,zKU,⟨fun h=>absurd h (by omega),by unfold maxLen;omega⟩⟩
 ·simp only[f9]at hmm
  rw[zFB]at hx;by_cases h0:len=0
  ·exact⟨some ad,len,cap,fun _=>0,zKU,⟨fun h=>absurd h (by omega),by omega⟩⟩
  have hsp:ad.spot=none:=by
   obtain⟨cs',h1,h2⟩:=hx 0 (by omega);obtain⟨-,zKA,hc⟩:=World.cells?_some h1;have:=hc 0 (by omega);rw[p9 (by omega)]at this;have:=eB this;simpa[Addr.add] using this
  obtain⟨b,off,spot⟩:=ad;obtain rfl:spot=none:=hsp
  have key:∀i,i<len->∃(hd:Int) (sa:Option Addr) (sn sc:Nat) (ta:Option Addr) (tn tc:Nat) (bb:Bool) (ov:Int),(W.cell? ⟨b,off+i*5,none⟩=some (.int .i64 hd)/\W.cell? ⟨b,off+i*5+1,none⟩=some (.slice sa sn sc)/\W.cell? ⟨b,off+i*5+2,none⟩=some (.slice ta tn tc)/\W.cell? ⟨b,off+i*5+3,none⟩=some (.bool bb)/\W.cell? ⟨b,off+i*5+4,none⟩=some (.int .i64 ov))/\jB hd/\jB ov/\lF W sa sn/\Ql W ta tn:=fun i hi=>by
   obtain⟨cs',h1,h2⟩:=hx i (by omega);obtain⟨-,zKA,hc⟩:=World.cells?_some h1;obtain⟨hd,sa,sn,sc,ta,tn,tc,bb,ov,rfl,w0,w4,r1,r2⟩:=xe h2;simp only[Cq]at hc;have q:=hc;exact⟨hd,sa,sn,sc,ta,tn,tc,bb,ov,⟨q 0 (by decide),q 1 (by decide),q 2 (by decide),q 3 (by decide),q 4 (by decide)⟩,w0,w4,r1,r2⟩
  refine⟨some ⟨b,off,none⟩,len,cap,fun i=>if h:i<len then (key i h).choose else 0,zKU,⟨fun _=>⟨b,off,rfl,fun i hi=>?_⟩,by omega⟩⟩;have:=(key i hi).choose_spec;simp only[dif_pos hi];exact this
theorem Ga{r:Reach}{b0:Nat}{v:Value}{d:DataW H}{p:List MemPlace}(hv:Value.okWide Tryz.prog W r b0 25 v)(h:DataW.Trod enc Tryz.prog W 0 (fun _=>true) true 25 v d p) :
 ∃la ln lc wa wn wk ra rn rc hd,v=.agg #[.slice la ln lc,.slice wa wn wk,.slice ra rn rc]/\lF W la ln/\lF W wa wn/\Kh W ra rn hd:=by
 obtain⟨cs,rfl,zKD⟩:=okWide_struct Tryz.underlying25 hv;obtain⟨fuel,hf⟩:=h;obtain⟨y0,y1,y2,n,hx,hl,h0,h1,h2⟩:=Deep.trod_struct3 Tryz.underlying25 hf;rw[zJ5]at hl;have zKU:(Value.agg cs).cells.toList=cs.toList:=by simp[Value.cells]
 rw[zKU]at h0 h1 h2 hl;obtain⟨cs⟩:=cs;simp only at h0 h1 h2 hl
 match cs,hl with
 | [c0,c1,c2],_ =>
   simp only[zFA]at h0 h1;simp only[zGS]at h2;obtain⟨la,ln,lc,e0,r0⟩:=iH (cs:=[c0]) (x:=y0) h0;obtain⟨wa,wn,wk,e1,r1⟩:=iH (cs:=[c1]) (x:=y1) h1;obtain⟨ra,rn,rc,hd,e2,r2⟩:=Fc (cs:=[c2]) (x:=y2) h2;injection e0 with e0 _
   injection e1 with e1 _
   injection e2 with e2 _
   subst e0 e1 e2;exact⟨la,ln,lc,wa,wn,wk,ra,rn,rc,hd,rfl,r0,r1,r2⟩
end
end Go.Proofs.YtnbpdffdnphbeabGreatDoor
