import Derived.Test.YtnbpdffdnphbeabGreatDoorFAbove
import Derived.ProofKit
import Derived.OpenShut
import Derived.Carry
import Derived.Deep.Strs
set_option maxRecDepth 100000
namespace Go.Proofs.YtnbpdffdnphbeabGreatDoor
open Go.RowKit
variable {M:yB} {G:Nat->GR}
variable{l:Bs}{cs:List Value}{fuel:Nat}
theorem X4(M:yB)(i j:Nat):Ki M i j ↔ Cc M (zS (qV M)) i j=true:=by
 unfold Ki Cc uU;rw[mc,mc,mc,mj,mj];simp
theorem zF2(h:yH M)(hG:∀i,i<M.rules.length->iU (xJ M.heads (uU M i).head) (uU M i) (G i)){rs:List MX}(hr:rs.map Prod.fst=uT ((yI (yP M G)).map zX.name) ((vF (yP M G)).map Prod.fst) (yP M G)):(∃i j,Ue (yI (yP M G)) (vF (yP M G)).length rs (Xk (yP M G)) i j) ↔ zFC M:=by
 constructor
 ·rintro⟨i,j,hc⟩
  obtain⟨h1,h2,h3,h4⟩:=(BH h hG hr i j).1 hc;exact⟨i,j,h1,h2,(X4 M i j).1 h3,h4⟩
 ·rintro⟨i,j,h1,h2,h3,h4⟩
  exact⟨i,j,(BH h hG hr i j).2 ⟨h1,h2,(X4 M i j).2 h3,h4⟩⟩
theorem vg(h:yH M)(lo:Bool)(ht:tw l=(xW M lo).flatten)(hl:l.length<=4000):∃G:Nat->GR,FrG M G/\∀w,Calls Tryz.prog 50 #[.string ⟨l.toArray⟩] w fun e w'=>cK (yP M G) w w' e:=by
 obtain⟨G,hG,e1,e2⟩:=BI h lo ht;obtain⟨hp,hq⟩:=Fe (n:=4001) hl (by decide);have hck:kF (vY l).1=(0,0):=by rw[e1];exact Z6 h hG
 have hR:=fun w=>G9 l w hl e2 (hp.good e2) hp.many (zH6 hl e2) zDV;have hc:tH (vY l).1:=zFQ (by rw[hck]);have hm:=zH8 hc (hp.good e2);have zJW:=hp.good e2;have hls:=hq.lines e2;have hR2:=fun w=>(hR w).mono fun e w' q=>q.2 (by rw[hck]);rw[e1]at hc hm hR2 zJW hls;exact⟨G,⟨hG,hc,hm,zJW,_,hls⟩,hR2⟩
theorem zJ6(h:yH M)(hF:FrG M G)(hR:∀w,Calls Tryz.prog 50 #[.string ⟨l.toArray⟩] w fun e w'=>cK (yP M G) w w' e)(w:World):Calls Tryz.prog 27 #[.string ⟨l.toArray⟩,.bool true] w fun e w'=>Below w.heap.size w w'/\((∃(b:Nat) (rs:List MX),e=.returned (.tuple #[.pointer (some ⟨b,0,none⟩),.int .i64 0])/\iW w' b (yP M G) rs/\¬zFC M)\/(e=.returned (.tuple #[.pointer none,.int .i64 8])/\zFC M)):=by
 refine(XX l w (yP M G) hF.mod (hR w)).mono ?_;rintro e w' ⟨rs,hr,hb,⟨b,rfl,hB,hn⟩|⟨rfl,i,j,hy⟩⟩
 ·exact⟨hb,.inl ⟨b,rs,rfl,hB,fun q=>by obtain⟨i,j,hij⟩:=(zF2 h hF.gr hr).2 q;exact hn i j hij⟩⟩
 ·exact⟨hb,.inr ⟨rfl,(zF2 h hF.gr hr).1 ⟨i,j,hy⟩⟩⟩
theorem qg(h:yH M)(lo:Bool)(ht:tw l=(xW M lo).flatten)(hl:l.length<=4000)(w:World):Calls Tryz.prog 27 #[.string ⟨l.toArray⟩,.bool true] w fun e w'=>zBD M w w' e:=by
 obtain⟨G,hF,hR⟩:=vg h lo ht hl;refine(zJ6 h hF hR w).mono ?_;rintro e w' ⟨hb,⟨b,rs,rfl,-,hn⟩|⟨rfl,hy⟩⟩
 ·exact⟨hb,.inl ⟨b,rfl,hn⟩⟩
 ·exact⟨hb,.inr ⟨rfl,hy⟩⟩
def zGQ(M:yB)(j:Nat):Bs:=if j<5 then yV j else xL 99 (M.heads.getD (j-5) 0)
def zCI(f:Nat->Int)(g:Nat->Bool)(j:Nat):Int:=if j<5 then f j else if g (j-5)=true then 1 else 0
theorem zGR(h:yH M)(hc:tH (yP M G))(f:Nat->Int)(g:Nat->Bool):tN (yI (yP M G)) f (yI (yP M G)).length++mQ (vF (yP M G)) g (vF (yP M G)).length=zIK (5+M.heads.length) (zGQ M) (zCI f g):=by
 have hll:(vF (yP M G)).length=M.heads.length:=by rw[eV hc,bS h,me]
 rw[fA,hll];unfold zIK;rw[List.range_add,lk,List.flatMap_map];congr 1
 ·unfold tN
  rw[List.flatMap_def,List.flatMap_def];congr 1
  refine List.map_congr_left fun j hj=>?_;have hj5:=md.1 hj;unfold zGQ zCI;rw[gD hj5,aF,fB,tr hj5,tr hj5]
 ·unfold mQ
  rw[List.flatMap_def,List.flatMap_def];congr 1
  refine List.map_congr_left fun j hj=>?_;have hjh:=md.1 hj
  have e1:((vF (yP M G)).getD j ([],0)).1=xL 99 (M.heads.getD j 0):=by
   have h2:((vF (yP M G)).map Prod.fst).getD j []=(M.heads.map (xL 99)).getD j []:=by rw[eU hc,bS h]
   have hj2:j<(vF (yP M G)).length:=by omega
   simpa[List.getD,hj2,hjh] using h2
  show _=([.string ⟨(zGQ M (5+j)).toArray⟩,.int .i64 (zCI f g (5+j))]:List Value);unfold zGQ zCI;rw[e1,tj (show ¬ 5+j<5 by omega),tj (show ¬ 5+j<5 by omega),show 5+j-5=j by omega]
theorem zI3(h:yH M)(hF:FrG M G)(hR:∀w,Calls Tryz.prog 50 #[.string ⟨l.toArray⟩] w fun e w'=>cK (yP M G) w w' e)(w:World):Calls Tryz.prog 29 #[.string ⟨l.toArray⟩] w fun e w'=>Kg M w w' e:=by
 have hG:=hF.gr;have hc:=hF.calm;have hm:=hF.mod;have h8:=h.few;refine(JZ l w (yP M G) hm (hR w)).mono ?_;rintro e w' ⟨rs,hr,hb,⟨rfl,hn⟩|⟨i,j,f,g,la,sa,sc,rfl,hf,hla,hsa,hrm,ha1,ha2⟩⟩
 ·exact .inl ⟨rfl,fun q=>by obtain⟨i,j,hij⟩:=(zF2 h hG hr).2 q;exact hn i j hij,hb⟩
 ·obtain⟨h1,h2,h3,-⟩:=(BH h hG hr i j).1 hf.1
  have hll:(vF (yP M G)).length=M.heads.length:=by rw[eV hc,bS h,me]
  obtain⟨hln,hat⟩:=KQ hc hr;rw[BF,me,List.length_range]at hln hat
  have hat2:∀k,k<M.rules.length->(jK rs k).1=qM oF (M.heads.map (xL 99)) (gX (uU M k) k (G k)):=fun k hk=>by
   rw[hat k hk,Df,bS h];congr 1
   simp[List.getD,hk]
  rw[zGR h hc]at hsa;rw[hat2 i (by omega),hat2 j h2]at hla;rw[hat2 i (by omega),hll]at ha1;rw[hat2 j h2,hll]at ha2;rw[hll]at hrm;have zK3:∀k,k<3->0<=zJ oF (yV k):=fun k hk=>by rw[B7 k (by omega)];omega
  have hco:∀d,d<4->zJ oF (xL 99 d)<0:=fun d hd=>by rw[qz d hd];decide
  have hl5:=fA M G
  have hin5:∀k,k<5->(aZ (yI (yP M G)) M.heads.length f g).inputs.getD k 0=f k:=fun k hk=>by
   show ((List.range (yI (yP M G)).length).map f).getD k 0=f k;rw[hl5];simp[List.getD,hk]
  refine .inr ⟨(zF2 h hG hr).1 ⟨i,j,hf.1⟩,i,j,zGQ M,zCI f g,la,sa,sc,by rw[hl5,hll],⟨h1,h2,(X4 M i j).1 h3⟩,hla,hsa,⟨fun k hk=>by unfold zGQ;rw[tr hk],fun k hk=>by unfold zGQ;rw[tj (by omega),show 5+k-5=k by omega],fun k hk=>?_,fun k hk=>?_⟩,fun v hv1 hv2=>?_,hb⟩
  ·have q:=hrm.num k (by omega) (by unfold xN;rw[gD (by omega),bO hk];rfl)
   rw[gD (by omega),bO hk,hin5 k (by omega)]at q;unfold zCI;rw[tr (by omega)];exact q
  ·unfold zCI
   by_cases h5:k<5
   ·rw[tr h5]
    have q:=hrm.flag k (by omega) (by unfold xN;rw[gD h5,aG (by omega)];rfl);rw[hin5 k h5]at q;exact q
   ·rw[tj h5]
    split
    ·exact .inr rfl
    ·exact .inl rfl
  ·have hE:Qa M.heads v (aJ oF (M.heads.map (xL 99)) (aZ (yI (yP M G)) M.heads.length f g)):=by
    refine⟨fun k hk=>?_,fun d hd=>?_⟩
    ·rw[Xx _ _ (by rw[hrm.inl,hl5]) hk,hin5 k hk,hv1 k hk]
     unfold zCI;rw[tr hk]
    ·show kV ((List.range M.heads.length).map g) (zJ (M.heads.map (xL 99)) (xL 99 d))=_
     obtain⟨a,ha,e1,e2⟩:=rO (l:=M.heads.map (xL 99)) (pd.2 ⟨d,hd,rfl⟩);rw[me]at ha
     have h4:∀x∈M.heads,x<4:=fun x hx=>by
      rw[h.heads]at hx;rcases(bT (M.rules.map vR.head) [] (x:=x)).1 hx with q|q
      ·cases q
      ·obtain⟨r,hr,rfl⟩:=pd.1 q;exact(h.rules r hr).head
     have e3:M.heads[a]=d:=by
      rw[ma,List.getElem?_map,pw ha]at e2;exact JS _ (h4 _ (f9 ha)) d (h4 d hd) e2
     have e4:M.heads.getD a 0=d:=by simp[List.getD,ha,e3]
     rw[e1,oE (by omega) (by simp;omega),Int.toNat_natCast];have q:=hv2 a ha;rw[e4]at q;rw[q];have e5:((List.range M.heads.length).map g).getD a false=g a:=by simp[List.getD,ha]
     rw[e5];unfold zCI;rw[tj (by omega),show 5+a-5=a by omega];cases g a <;> rfl
   refine⟨?_,?_⟩
   ·rw[QS h (by omega) (hG i (by omega)) zK3 hco hE]at ha1;exact ha1
   ·rw[QS h h2 (hG j h2) zK3 hco hE]at ha2;exact ha2
theorem Dq(h:yH M)(lo:Bool)(ht:tw l=(xW M lo).flatten)(hl:l.length<=4000)(w:World):Calls Tryz.prog 29 #[.string ⟨l.toArray⟩] w fun e w'=>Kg M w w' e:=by
 obtain⟨G,hF,hR⟩:=vg h lo ht hl;exact zI3 h hF hR w
theorem GB(w:World)(la wa ra ga:Option Addr)(ln lc wn wk rn rc gn gc:Nat)(hd:Nat->Int)(hL:pK w la ln)(hW:pK w wa wn)(hR:XD w ra rn hd)(hG:pK w ga gn)(hT:gU w) :
 Calls Tryz.prog 5 #[.agg #[.slice la ln lc,.slice wa wn wk,.slice ra rn rc],.slice ga gn gc] w fun e w'=>e=.returned (.bool true)/\Below w.heap.size w w' :=
 zB1 w la wa ra ga ln lc wn wk rn rc gn gc hd hL hW hR hG hT
  (fun _ h w' _=>qg h false (ZT h false) (aX h false) w')
  (fun _ h w' _=>Dq h false (ZT h false) (aX h false) w')
open Go.ChangeShapes Go.WideShapes Go.ChangeAt Go.WideMaps Go.WideElems
theorem yx:Tryz.prog.cellsOf 3=1:=by kernel_rfl
theorem zFG:Tryz.prog.cellsOf 4=1:=by kernel_rfl
theorem zFE:Tryz.prog.cellsOf 22=1:=by kernel_rfl
theorem zGP:Tryz.prog.cellsOf 23=1:=by kernel_rfl
theorem zGO:Tryz.prog.cellsOf 79=1:=by kernel_rfl
theorem zFF:Tryz.prog.cellsOf 81=5:=by kernel_rfl
theorem zFD:Tryz.prog.cellsOf 151=8:=by kernel_rfl
theorem zJ0:Tryz.prog.cellsOf 25=3:=by kernel_rfl
theorem QA{c:Int}(h:(Lit.int .i64 c).wf=true):jP c:=by
 simp[Lit.wf,IntKind.min,IntKind.max,IntKind.signed,IntKind.bits]at h;unfold jP;omega
theorem aQ{w:World}{a:Addr}{v:Value}(h:w.cell? a=some v):a.spot=none:=by
 unfold World.cell? at h
 cases hs:a.spot with
 | none=>rfl
 | some x=>rw[hs]at h;split at h <;> simp at h
theorem Cf(b o i:Nat):(⟨b,o,none⟩:Addr).add i=⟨b,o+i,none⟩:=by simp[Addr.add]
section
variable {H:Type} {enc:TypeId × Value->H} {W:World}
theorem iF{x:DataW H × List MemPlace}(h:DataW.trod enc Tryz.prog W 0 (fun _=>true) true fuel 22 cs=some x):∃a n c,cs=[.slice a n c]/\pK W a n:=by
 rcases open_ints Tryz.underlying22 Tryz.underlying3 yx h with ⟨zKC,_⟩|⟨ad,len,cap',zs,zKC,_,hl,hm,hz,_,hcell,hwz⟩
 ·exact⟨none,0,0,zKC,fun _=>0,⟨fun h=>absurd h (by omega),by unfold maxLen;omega,fun i hi=>absurd hi (by omega)⟩⟩
 ·simp only[if_true]at hz
  refine⟨some ad,len,cap',zKC,fun i=>zs.getD i 0,⟨fun h=>?_,by omega,fun i hi=>?_⟩⟩
  ·have hs:=aQ (hcell 0 (by omega))
   have hs:ad.spot=none:=by simpa[Addr.add] using hs
   obtain⟨b,off,spot⟩:=ad;obtain rfl:spot=none:=hs;refine⟨b,off,rfl,fun i hi=>?_⟩;have:=hcell i (by omega);rw[Cf]at this;exact this
  ·have hi':i<zs.length:=by omega
   refine QA (hwz _ ?_);show zs.getD i 0∈zs;rw[ma,pw hi'];exact f9 hi'
theorem cD{c:Value}{x:Option (DataW H × List MemPlace)}{y:DataW H × List MemPlace}(h:DataW.trod enc Tryz.prog W 0 (fun _=>true) true fuel 3 [c]=x)(hx:x=some y):∃z,c=.int .i64 z/\jP z:=by
 rw[hx]at h;obtain⟨n,h1,_,h2⟩:=DataW.trod_int Tryz.underlying3 h;injection h1 with h1 _
 exact⟨n,h1,QA h2⟩
theorem rS{c:Value}{x:Option (DataW H × List MemPlace)}{y:DataW H × List MemPlace}(h:DataW.trod enc Tryz.prog W 0 (fun _=>true) true fuel 4 [c]=x)(hx:x=some y):∃b,c=.bool b:=by
 rw[hx]at h;obtain⟨b,h1,_⟩:=DataW.trod_bool Tryz.underlying4 h;injection h1 with h1 _
 exact⟨b,h1⟩
theorem zv{x:DataW H × List MemPlace}(h:DataW.trod enc Tryz.prog W 0 (fun _=>true) true fuel 151 cs=some x):∃(b1 b2 b3:Bool) (k x y mk n:Int),cs=[.bool b1,.bool b2,.bool b3,.int .i64 k,.int .i64 x,.int .i64 y,.int .i64 mk,.int .i64 n]/\(jP k/\jP x/\jP y/\jP mk/\jP n):=by
 obtain⟨xs,m,_,rfl,hl,zJV,hf⟩:=DataW.trod_struct Tryz.underlying151 h;rw[zFD]at hl
 match cs,hl with
 | [c0,c1,c2,c3,c4,c5,c6,c7],_ =>
   match xs,zJV with
   | [y0,y1,y2,y3,y4,y5,y6,y7],_ =>
     have g0:DataW.trod enc Tryz.prog W 0 (fun _=>true) true m 4 (([c0,c1,c2,c3,c4,c5,c6,c7].drop 0).take (Tryz.prog.cellsOf 4))=_:=hf 0 _ rfl;have g1:DataW.trod enc Tryz.prog W 0 (fun _=>true) true m 4 (([c0,c1,c2,c3,c4,c5,c6,c7].drop 1).take (Tryz.prog.cellsOf 4))=_:=hf 1 _ rfl;have g2:DataW.trod enc Tryz.prog W 0 (fun _=>true) true m 4 (([c0,c1,c2,c3,c4,c5,c6,c7].drop 2).take (Tryz.prog.cellsOf 4))=_:=hf 2 _ rfl;have g3:DataW.trod enc Tryz.prog W 0 (fun _=>true) true m 3 (([c0,c1,c2,c3,c4,c5,c6,c7].drop 3).take (Tryz.prog.cellsOf 3))=_:=hf 3 _ rfl;have g4:DataW.trod enc Tryz.prog W 0 (fun _=>true) true m 3 (([c0,c1,c2,c3,c4,c5,c6,c7].drop 4).take (Tryz.prog.cellsOf 3))=_:=hf 4 _ rfl;have g5:DataW.trod enc Tryz.prog W 0 (fun _=>true) true m 3 (([c0,c1,c2,c3,c4,c5,c6,c7].drop 5).take (Tryz.prog.cellsOf 3))=_:=hf 5 _ rfl;have g6:DataW.trod enc Tryz.prog W 0 (fun _=>true) true m 3 (([c0,c1,c2,c3,c4,c5,c6,c7].drop 6).take (Tryz.prog.cellsOf 3))=_:=hf 6 _ rfl;have g7:DataW.trod enc Tryz.prog W 0 (fun _=>true) true m 3 (([c0,c1,c2,c3,c4,c5,c6,c7].drop 7).take (Tryz.prog.cellsOf 3))=_:=hf 7 _ rfl;rw[zFG]at g0 g1 g2;rw[yx]at g3 g4 g5 g6 g7;obtain⟨b1,rfl⟩:=rS (c:=c0) g0 rfl;obtain⟨b2,rfl⟩:=rS (c:=c1) g1 rfl;obtain⟨b3,rfl⟩:=rS (c:=c2) g2 rfl;obtain⟨k,rfl,w1⟩:=cD (c:=c3) g3 rfl;obtain⟨x,rfl,w2⟩:=cD (c:=c4) g4 rfl;obtain⟨y,rfl,w3⟩:=cD (c:=c5) g5 rfl;obtain⟨mk,rfl,w4⟩:=cD (c:=c6) g6 rfl;obtain⟨n,rfl,w5⟩:=cD (c:=c7) g7 rfl;exact⟨b1,b2,b3,k,x,y,mk,n,rfl,w1,w2,w3,w4,w5⟩
theorem DC{x:DataW H × List MemPlace}(h:DataW.trod enc Tryz.prog W 0 (fun _=>true) true fuel 79 cs=some x):∃a n c,cs=[.slice a n c]/\XY W a n:=by
 rcases Deep.open_slice Tryz.underlying79 h with ⟨zKC,_⟩|⟨ad,len,cap,m,n,D,Pl,zKC,_,hl,hm,hmm,_,hx⟩
 ·exact⟨none,0,0,zKC,⟨fun h=>absurd h (by omega),by unfold maxLen;omega⟩⟩
 ·simp only[if_true]at hmm
  rw[zFD]at hx;refine⟨some ad,len,cap,zKC,⟨fun h0=>?_,by omega⟩⟩
  have hsp:ad.spot=none:=by
   obtain⟨cs',h1,h2⟩:=hx 0 (by omega);obtain⟨-,zJV,hc⟩:=World.cells?_some h1;have:=hc 0 (by omega);rw[pw (by omega)]at this;have:=aQ this;simpa[Addr.add] using this
  obtain⟨b,off,spot⟩:=ad;obtain rfl:spot=none:=hsp;refine⟨b,off,rfl,fun i hi=>?_⟩;obtain⟨cs',h1,h2⟩:=hx i (by omega);obtain⟨-,zJV,hc⟩:=World.cells?_some h1;obtain⟨b1,b2,b3,k,x,y,mk,n,rfl,hw⟩:=zv h2;simp only[Cf]at hc;have q:=hc;exact⟨b1,b2,b3,k,x,y,mk,n,⟨q 0 (by decide),q 1 (by decide),q 2 (by decide),q 3 (by decide),q 4 (by decide),q 5 (by decide),q 6 (by decide),q 7 (by decide)⟩,hw⟩
theorem xx{x:DataW H × List MemPlace}(h:DataW.trod enc Tryz.prog W 0 (fun _=>true) true fuel 81 cs=some x):∃(hd:Int) (sa:Option Addr) (sn sc:Nat) (ta:Option Addr) (tn tc:Nat) (b:Bool) (ov:Int),cs=[.int .i64 hd,.slice sa sn sc,.slice ta tn tc,.bool b,.int .i64 ov]/\jP hd/\jP ov/\pK W sa sn/\XY W ta tn:=by
 obtain⟨xs,m,_,rfl,hl,zJV,hf⟩:=DataW.trod_struct Tryz.underlying81 h;rw[zFF]at hl
 match cs,hl with
 | [c0,c1,c2,c3,c4],_ =>
   match xs,zJV with
   | [y0,y1,y2,y3,y4],_ =>
     have g0:DataW.trod enc Tryz.prog W 0 (fun _=>true) true m 3 (([c0,c1,c2,c3,c4].drop 0).take (Tryz.prog.cellsOf 3))=_:=hf 0 _ rfl;have g1:DataW.trod enc Tryz.prog W 0 (fun _=>true) true m 22 (([c0,c1,c2,c3,c4].drop 1).take (Tryz.prog.cellsOf 22))=_:=hf 1 _ rfl;have g2:DataW.trod enc Tryz.prog W 0 (fun _=>true) true m 79 (([c0,c1,c2,c3,c4].drop 2).take (Tryz.prog.cellsOf 79))=_:=hf 2 _ rfl;have g3:DataW.trod enc Tryz.prog W 0 (fun _=>true) true m 4 (([c0,c1,c2,c3,c4].drop 3).take (Tryz.prog.cellsOf 4))=_:=hf 3 _ rfl;have g4:DataW.trod enc Tryz.prog W 0 (fun _=>true) true m 3 (([c0,c1,c2,c3,c4].drop 4).take (Tryz.prog.cellsOf 3))=_:=hf 4 _ rfl;rw[yx]at g0 g4;rw[zFE]at g1;rw[zGO]at g2;rw[zFG]at g3;obtain⟨hd,rfl,w0⟩:=cD (c:=c0) g0 rfl;obtain⟨b,rfl⟩:=rS (c:=c3) g3 rfl;obtain⟨ov,rfl,w4⟩:=cD (c:=c4) g4 rfl;obtain⟨sa,sn,sc,e1,r1⟩:=iF (cs:=[c1]) (x:=y1) g1;obtain⟨ta,tn,tc,e2,r2⟩:=DC (cs:=[c2]) (x:=y2) g2;injection e1 with e1 _
     injection e2 with e2 _
     subst e1 e2;exact⟨hd,sa,sn,sc,ta,tn,tc,b,ov,rfl,w0,w4,r1,r2⟩
theorem DS{x:DataW H × List MemPlace}(h:DataW.trod enc Tryz.prog W 0 (fun _=>true) true fuel 23 cs=some x):∃a n c hd,cs=[.slice a n c]/\XD W a n hd:=by
 rcases Deep.open_slice Tryz.underlying23 h with ⟨zKC,_⟩|⟨ad,len,cap,m,n,D,Pl,zKC,_,hl,hm,hmm,_,hx⟩
 ·exact⟨none,0,0,fun _=>0,zKC,⟨fun h=>absurd h (by omega),by unfold maxLen;omega⟩⟩
 ·simp only[if_true]at hmm
  rw[zFF]at hx;by_cases h0:len=0
  ·exact⟨some ad,len,cap,fun _=>0,zKC,⟨fun h=>absurd h (by omega),by omega⟩⟩
  have hsp:ad.spot=none:=by
   obtain⟨cs',h1,h2⟩:=hx 0 (by omega);obtain⟨-,zJV,hc⟩:=World.cells?_some h1;have:=hc 0 (by omega);rw[pw (by omega)]at this;have:=aQ this;simpa[Addr.add] using this
  obtain⟨b,off,spot⟩:=ad;obtain rfl:spot=none:=hsp
  have key:∀i,i<len->∃(hd:Int) (sa:Option Addr) (sn sc:Nat) (ta:Option Addr) (tn tc:Nat) (bb:Bool) (ov:Int),(W.cell? ⟨b,off+i*5,none⟩=some (.int .i64 hd)/\W.cell? ⟨b,off+i*5+1,none⟩=some (.slice sa sn sc)/\W.cell? ⟨b,off+i*5+2,none⟩=some (.slice ta tn tc)/\W.cell? ⟨b,off+i*5+3,none⟩=some (.bool bb)/\W.cell? ⟨b,off+i*5+4,none⟩=some (.int .i64 ov))/\jP hd/\jP ov/\pK W sa sn/\XY W ta tn:=fun i hi=>by
   obtain⟨cs',h1,h2⟩:=hx i (by omega);obtain⟨-,zJV,hc⟩:=World.cells?_some h1;obtain⟨hd,sa,sn,sc,ta,tn,tc,bb,ov,rfl,w0,w4,r1,r2⟩:=xx h2;simp only[Cf]at hc;have q:=hc;exact⟨hd,sa,sn,sc,ta,tn,tc,bb,ov,⟨q 0 (by decide),q 1 (by decide),q 2 (by decide),q 3 (by decide),q 4 (by decide)⟩,w0,w4,r1,r2⟩
  refine⟨some ⟨b,off,none⟩,len,cap,fun i=>if h:i<len then (key i h).choose else 0,zKC,⟨fun _=>⟨b,off,rfl,fun i hi=>?_⟩,by omega⟩⟩;have:=(key i hi).choose_spec;simp only[dif_pos hi];exact this
theorem QF{r:Reach}{b0:Nat}{v:Value}{d:DataW H}{p:List MemPlace}(hv:Value.okWide Tryz.prog W r b0 25 v)(h:DataW.Trod enc Tryz.prog W 0 (fun _=>true) true 25 v d p) :
 ∃la ln lc wa wn wk ra rn rc hd,v=.agg #[.slice la ln lc,.slice wa wn wk,.slice ra rn rc]/\pK W la ln/\pK W wa wn/\XD W ra rn hd:=by
 obtain⟨cs,rfl,zK2⟩:=okWide_struct Tryz.underlying25 hv;obtain⟨fuel,hf⟩:=h;obtain⟨y0,y1,y2,n,hx,hl,h0,h1,h2⟩:=Deep.trod_struct3 Tryz.underlying25 hf;rw[zJ0]at hl;have zKC:(Value.agg cs).cells.toList=cs.toList:=by simp[Value.cells]
 rw[zKC]at h0 h1 h2 hl;obtain⟨cs⟩:=cs;simp only at h0 h1 h2 hl
 match cs,hl with
 | [c0,c1,c2],_ =>
   simp only[zFE]at h0 h1;simp only[zGP]at h2;obtain⟨la,ln,lc,e0,r0⟩:=iF (cs:=[c0]) (x:=y0) h0;obtain⟨wa,wn,wk,e1,r1⟩:=iF (cs:=[c1]) (x:=y1) h1;obtain⟨ra,rn,rc,hd,e2,r2⟩:=DS (cs:=[c2]) (x:=y2) h2;injection e0 with e0 _
   injection e1 with e1 _
   injection e2 with e2 _
   subst e0 e1 e2;exact⟨la,ln,lc,wa,wn,wk,ra,rn,rc,hd,rfl,r0,r1,r2⟩
end
end Go.Proofs.YtnbpdffdnphbeabGreatDoor
