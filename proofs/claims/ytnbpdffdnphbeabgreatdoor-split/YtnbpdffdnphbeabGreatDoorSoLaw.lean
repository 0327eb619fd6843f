import Derived.Test.YtnbpdffdnphbeabGreatDoorFAbove
import Derived.ProofKit
import Derived.OpenShut
import Derived.Carry
import Derived.Deep.Strs
set_option maxRecDepth 100000
namespace Go.Proofs.YtnbpdffdnphbeabGreatDoor
open Go.RowKit
variable {M:yC} {G:Nat->GR}
variable{cs:List Value}{fuel:Nat}
theorem Uo(M:yC)(i j:Nat):Kx M i j ↔ apB M (yB (nX M)) i j=true:=by
 unfold Kx apB vO;rw[pq,pq,pq,pw,pw];simp
theorem zJ9(h:yI M)(hG:∀i,i<M.rules.length->sT (xC M.heads (vO M i).head) (vO M i) (G i)){rs:List MX}(hr:rs.map Prod.fst=uQ ((zX (yA M G)).map zQ.name) ((yY (yA M G)).map Prod.fst) (yA M G)):(∃i j,U0 (zX (yA M G)) (yY (yA M G)).length rs (X4 (yA M G)) i j) ↔ zJS M:=by
 constructor
 ·rintro⟨i,j,hc⟩
  obtain⟨h1,h2,h3,h4⟩:=(zA9 h hG hr i j).1 hc;exact⟨i,j,h1,h2,(Uo M i j).1 h3,h4⟩
 ·rintro⟨i,j,h1,h2,h3,h4⟩
  exact⟨i,j,(zA9 h hG hr i j).2 ⟨h1,h2,(Uo M i j).2 h3,h4⟩⟩
theorem zHT(h:yI M)(lo:Bool){l:Bs}(ht:tw l=(vI M lo).flatten)(hl:l.length<=4000):∃G:Nat->GR,FrG M G/\∀w,Calls Tryz.prog 50 #[.string ⟨l.toArray⟩] w fun e w'=>fO (yA M G) w w' e:=by
 obtain⟨G,hG,e1,e2⟩:=Ca h lo ht;have zLA:∀x∈(kM l).1,gO x:=by rw[e1];exact zA8 h hG
 have hmn:(kM l).1.length<=10000:=by
  rw[e1];have h8:=h.few;have hov:=Dk h;unfold yA;rw[tm,tm,pi,pi,pi,List.length_range,List.length_range];omega
 have hnd:∀x∈(kM l).1,x.nd.length<=10000:=by rw[e1];exact zIU hG
 have hck:kI (kM l).1=(0,0):=by rw[e1];exact ZS h hG
 have hR:=fun w=>zd l w hl e2 zLA hmn hnd zE9;have hc:vL (kM l).1:=zGN (by rw[hck]);have hm:=zI4 hc zLA;have hR2:=fun w=>(hR w).mono fun e w' q=>q.2 (by rw[hck]);rw[e1]at hc hm hR2 zLA;exact⟨G,⟨hG,hc,hm,zLA⟩,hR2⟩
theorem zK6(h:yI M)(hF:FrG M G){l:Bs}(hR:∀w,Calls Tryz.prog 50 #[.string ⟨l.toArray⟩] w fun e w'=>fO (yA M G) w w' e)(w:World):Calls Tryz.prog 27 #[.string ⟨l.toArray⟩,.bool true] w fun e w'=>Below w.heap.size w w'/\((∃(b:Nat) (rs:List MX),e=.returned (.tuple #[.pointer (some ⟨b,0,none⟩),.int .i64 0])/\bA w' b (yA M G) rs/\¬zJS M)\/(e=.returned (.tuple #[.pointer none,.int .i64 8])/\zJS M)):=by
 refine(Qu l w (yA M G) hF.mod (hR w)).mono ?_;rintro e w' ⟨rs,hr,hb,⟨b,rfl,hB,hn⟩|⟨rfl,i,j,hy⟩⟩
 ·exact⟨hb,.inl ⟨b,rs,rfl,hB,fun q=>by obtain⟨i,j,hij⟩:=(zJ9 h hF.gr hr).2 q;exact hn i j hij⟩⟩
 ·exact⟨hb,.inr ⟨rfl,(zJ9 h hF.gr hr).1 ⟨i,j,hy⟩⟩⟩
open Go.ChangeShapes Go.WideShapes Go.ChangeAt Go.WideMaps Go.WideElems
theorem vt:Tryz.prog.cellsOf 3=1:=by kernel_rfl
theorem zG7:Tryz.prog.cellsOf 4=1:=by kernel_rfl
theorem zG5:Tryz.prog.cellsOf 22=1:=by kernel_rfl
theorem zHO:Tryz.prog.cellsOf 23=1:=by kernel_rfl
theorem zHN:Tryz.prog.cellsOf 79=1:=by kernel_rfl
theorem zG6:Tryz.prog.cellsOf 81=5:=by kernel_rfl
theorem zG4:Tryz.prog.cellsOf 151=8:=by kernel_rfl
theorem zJY:Tryz.prog.cellsOf 25=3:=by kernel_rfl
theorem QT{c:Int}(h:(Lit.int .i64 c).wf=true):jA c:=by
 simp[Lit.wf,IntKind.min,IntKind.max,IntKind.signed,IntKind.bits]at h;unfold jA;omega
theorem eF{w:World}{a:Addr}{v:Value}(h:w.cell? a=some v):a.spot=none:=by
 unfold World.cell? at h
 cases hs:a.spot with
 | none=>rfl
 | some x=>rw[hs]at h;split at h <;> simp at h
theorem C5(b o i:Nat):(⟨b,o,none⟩:Addr).add i=⟨b,o+i,none⟩:=by simp[Addr.add]
section
variable {H:Type} {enc:TypeId × Value->H} {W:World}
theorem iT{x:DataW H × List MemPlace}(h:DataW.trod enc Tryz.prog W 0 (fun _=>true) true fuel 22 cs=some x):∃a n c,cs=[.slice a n c]/\bK W a n:=by
 rcases open_ints Tryz.underlying22 Tryz.underlying3 vt h with ⟨zLN,_⟩|⟨ad,len,cap',zs,zLN,_,hl,hm,hz,_,hcell,hwz⟩
 ·exact⟨none,0,0,zLN,fun _=>0,⟨fun h=>absurd h (by omega),by unfold maxLen;omega,fun i hi=>absurd hi (by omega)⟩⟩
 ·simp only[dt]at hz
  refine⟨some ad,len,cap',zLN,fun i=>zs.getD i 0,⟨fun h=>?_,by omega,fun i hi=>?_⟩⟩
  ·have hs:=eF (hcell 0 (by omega))
   have hs:ad.spot=none:=by simpa[Addr.add] using hs
   obtain⟨b,off,spot⟩:=ad;obtain rfl:spot=none:=hs;refine⟨b,off,rfl,fun i hi=>?_⟩;have:=hcell i (by omega);rw[C5]at this;exact this
  ·have hi':i<zs.length:=by omega
   refine QT (hwz _ ?_);show zs.getD i 0∈zs;rw[pd,pb hi'];exact dm hi'
theorem cX{c:Value}{x:Option (DataW H × List MemPlace)}{y:DataW H × List MemPlace}(h:DataW.trod enc Tryz.prog W 0 (fun _=>true) true fuel 3 [c]=x)(hx:x=some y):∃z,c=.int .i64 z/\jA z:=by
 rw[hx]at h;obtain⟨n,h1,_,h2⟩:=DataW.trod_int Tryz.underlying3 h;injection h1 with h1 _
 exact⟨n,h1,QT h2⟩
theorem sM{c:Value}{x:Option (DataW H × List MemPlace)}{y:DataW H × List MemPlace}(h:DataW.trod enc Tryz.prog W 0 (fun _=>true) true fuel 4 [c]=x)(hx:x=some y):∃b,c=.bool b:=by
 rw[hx]at h;obtain⟨b,h1,_⟩:=DataW.trod_bool Tryz.underlying4 h;injection h1 with h1 _
 exact⟨b,h1⟩
theorem xe{x:DataW H × List MemPlace}(h:DataW.trod enc Tryz.prog W 0 (fun _=>true) true fuel 151 cs=some x):∃(b1 b2 b3:Bool) (k x y mk n:Int),cs=[.bool b1,.bool b2,.bool b3,.int .i64 k,.int .i64 x,.int .i64 y,.int .i64 mk,.int .i64 n]/\(jA k/\jA x/\jA y/\jA mk/\jA n):=by
 obtain⟨xs,m,_,rfl,hl,zL6,hf⟩:=DataW.trod_struct Tryz.underlying151 h;rw[zG4]at hl
 match cs,hl with
 | [c0,c1,c2,c3,c4,c5,c6,c7],_ =>
   match xs,zL6 with
   | [y0,y1,y2,y3,y4,y5,y6,y7],_ =>
     have g0:DataW.trod enc Tryz.prog W 0 (fun _=>true) true m 4 (([c0,c1,c2,c3,c4,c5,c6,c7].drop 0).take (Tryz.prog.cellsOf 4))=_:=hf 0 _ rfl;have g1:DataW.trod enc Tryz.prog W 0 (fun _=>true) true m 4 (([c0,c1,c2,c3,c4,c5,c6,c7].drop 1).take (Tryz.prog.cellsOf 4))=_:=hf 1 _ rfl;have g2:DataW.trod enc Tryz.prog W 0 (fun _=>true) true m 4 (([c0,c1,c2,c3,c4,c5,c6,c7].drop 2).take (Tryz.prog.cellsOf 4))=_:=hf 2 _ rfl;have g3:DataW.trod enc Tryz.prog W 0 (fun _=>true) true m 3 (([c0,c1,c2,c3,c4,c5,c6,c7].drop 3).take (Tryz.prog.cellsOf 3))=_:=hf 3 _ rfl;have g4:DataW.trod enc Tryz.prog W 0 (fun _=>true) true m 3 (([c0,c1,c2,c3,c4,c5,c6,c7].drop 4).take (Tryz.prog.cellsOf 3))=_:=hf 4 _ rfl;have g5:DataW.trod enc Tryz.prog W 0 (fun _=>true) true m 3 (([c0,c1,c2,c3,c4,c5,c6,c7].drop 5).take (Tryz.prog.cellsOf 3))=_:=hf 5 _ rfl;have g6:DataW.trod enc Tryz.prog W 0 (fun _=>true) true m 3 (([c0,c1,c2,c3,c4,c5,c6,c7].drop 6).take (Tryz.prog.cellsOf 3))=_:=hf 6 _ rfl;have g7:DataW.trod enc Tryz.prog W 0 (fun _=>true) true m 3 (([c0,c1,c2,c3,c4,c5,c6,c7].drop 7).take (Tryz.prog.cellsOf 3))=_:=hf 7 _ rfl;rw[zG7]at g0 g1 g2;rw[vt]at g3 g4 g5 g6 g7;obtain⟨b1,rfl⟩:=sM (c:=c0) g0 rfl;obtain⟨b2,rfl⟩:=sM (c:=c1) g1 rfl;obtain⟨b3,rfl⟩:=sM (c:=c2) g2 rfl;obtain⟨k,rfl,w1⟩:=cX (c:=c3) g3 rfl;obtain⟨x,rfl,w2⟩:=cX (c:=c4) g4 rfl;obtain⟨y,rfl,w3⟩:=cX (c:=c5) g5 rfl;obtain⟨mk,rfl,w4⟩:=cX (c:=c6) g6 rfl;obtain⟨n,rfl,w5⟩:=cX (c:=c7) g7 rfl;exact⟨b1,b2,b3,k,x,y,mk,n,rfl,w1,w2,w3,w4,w5⟩
theorem Ff{x:DataW H × List MemPlace}(h:DataW.trod enc Tryz.prog W 0 (fun _=>true) true fuel 79 cs=some x):∃a n c,cs=[.slice a n c]/\Qv W a n:=by
 rcases Deep.open_slice Tryz.underlying79 h with ⟨zLN,_⟩|⟨ad,len,cap,m,n,D,Pl,zLN,_,hl,hm,hmm,_,hx⟩
 ·exact⟨none,0,0,zLN,⟨fun h=>absurd h (by omega),by unfold maxLen;omega⟩⟩
 ·simp only[dt]at hmm
  rw[zG4]at hx;refine⟨some ad,len,cap,zLN,⟨fun h0=>?_,by omega⟩⟩
  have hsp:ad.spot=none:=by
   obtain⟨cs',h1,h2⟩:=hx 0 (by omega);obtain⟨-,zL6,hc⟩:=World.cells?_some h1;have:=hc 0 (by omega);rw[pb (by omega)]at this;have:=eF this;simpa[Addr.add] using this
  obtain⟨b,off,spot⟩:=ad;obtain rfl:spot=none:=hsp;refine⟨b,off,rfl,fun i hi=>?_⟩;obtain⟨cs',h1,h2⟩:=hx i (by omega);obtain⟨-,zL6,hc⟩:=World.cells?_some h1;obtain⟨b1,b2,b3,k,x,y,mk,n,rfl,hw⟩:=xe h2;simp only[C5]at hc;have q:=hc;exact⟨b1,b2,b3,k,x,y,mk,n,⟨q 0 (by decide),q 1 (by decide),q 2 (by decide),q 3 (by decide),q 4 (by decide),q 5 (by decide),q 6 (by decide),q 7 (by decide)⟩,hw⟩
theorem ue{x:DataW H × List MemPlace}(h:DataW.trod enc Tryz.prog W 0 (fun _=>true) true fuel 81 cs=some x):∃(hd:Int) (sa:Option Addr) (sn sc:Nat) (ta:Option Addr) (tn tc:Nat) (b:Bool) (ov:Int),cs=[.int .i64 hd,.slice sa sn sc,.slice ta tn tc,.bool b,.int .i64 ov]/\jA hd/\jA ov/\bK W sa sn/\Qv W ta tn:=by
 obtain⟨xs,m,_,rfl,hl,zL6,hf⟩:=DataW.trod_struct Tryz.underlying81 h;rw[zG6]at hl
 match cs,hl with
 | [c0,c1,c2,c3,c4],_ =>
   match xs,zL6 with
   | [y0,y1,y2,y3,y4],_ =>
     have g0:DataW.trod enc Tryz.prog W 0 (fun _=>true) true m 3 (([c0,c1,c2,c3,c4].drop 0).take (Tryz.prog.cellsOf 3))=_:=hf 0 _ rfl;have g1:DataW.trod enc Tryz.prog W 0 (fun _=>true) true m 22 (([c0,c1,c2,c3,c4].drop 1).take (Tryz.prog.cellsOf 22))=_:=hf 1 _ rfl;have g2:DataW.trod enc Tryz.prog W 0 (fun _=>true) true m 79 (([c0,c1,c2,c3,c4].drop 2).take (Tryz.prog.cellsOf 79))=_:=hf 2 _ rfl;have g3:DataW.trod enc Tryz.prog W 0 (fun _=>true) true m 4 (([c0,c1,c2,c3,c4].drop 3).take (Tryz.prog.cellsOf 4))=_:=hf 3 _ rfl;have g4:DataW.trod enc Tryz.prog W 0 (fun _=>true) true m 3 (([c0,c1,c2,c3,c4].drop 4).take (Tryz.prog.cellsOf 3))=_:=hf 4 _ rfl;rw[vt]at g0 g4;rw[zG5]at g1;rw[zHN]at g2;rw[zG7]at g3;obtain⟨hd,rfl,w0⟩:=cX (c:=c0) g0 rfl;obtain⟨b,rfl⟩:=sM (c:=c3) g3 rfl;obtain⟨ov,rfl,w4⟩:=cX (c:=c4) g4 rfl;obtain⟨sa,sn,sc,e1,r1⟩:=iT (cs:=[c1]) (x:=y1) g1;obtain⟨ta,tn,tc,e2,r2⟩:=Ff (cs:=[c2]) (x:=y2) g2;injection e1 with e1 _
     injection e2 with e2 _
     subst e1 e2;exact⟨hd,sa,sn,sc,ta,tn,tc,b,ov,rfl,w0,w4,r1,r2⟩
theorem F0{x:DataW H × List MemPlace}(h:DataW.trod enc Tryz.prog W 0 (fun _=>true) true fuel 23 cs=some x):∃a n c hd,cs=[.slice a n c]/\XY W a n hd:=by
 rcases Deep.open_slice Tryz.underlying23 h with ⟨zLN,_⟩|⟨ad,len,cap,m,n,D,Pl,zLN,_,hl,hm,hmm,_,hx⟩
 ·exact⟨none,0,0,fun _=>0,zLN,⟨fun h=>absurd h (by omega),by unfold maxLen;omega⟩⟩
 ·simp only[dt]at hmm
  rw[zG6]at hx;by_cases h0:len=0
  ·exact⟨some ad,len,cap,fun _=>0,zLN,⟨fun h=>absurd h (by omega),by omega⟩⟩
  have hsp:ad.spot=none:=by
   obtain⟨cs',h1,h2⟩:=hx 0 (by omega);obtain⟨-,zL6,hc⟩:=World.cells?_some h1;have:=hc 0 (by omega);rw[pb (by omega)]at this;have:=eF this;simpa[Addr.add] using this
  obtain⟨b,off,spot⟩:=ad;obtain rfl:spot=none:=hsp
  have key:∀i,i<len->∃(hd:Int) (sa:Option Addr) (sn sc:Nat) (ta:Option Addr) (tn tc:Nat) (bb:Bool) (ov:Int),(W.cell? ⟨b,off+i*5,none⟩=some (.int .i64 hd)/\W.cell? ⟨b,off+i*5+1,none⟩=some (.slice sa sn sc)/\W.cell? ⟨b,off+i*5+2,none⟩=some (.slice ta tn tc)/\W.cell? ⟨b,off+i*5+3,none⟩=some (.bool bb)/\W.cell? ⟨b,off+i*5+4,none⟩=some (.int .i64 ov))/\jA hd/\jA ov/\bK W sa sn/\Qv W ta tn:=fun i hi=>by
   obtain⟨cs',h1,h2⟩:=hx i (by omega);obtain⟨-,zL6,hc⟩:=World.cells?_some h1;obtain⟨hd,sa,sn,sc,ta,tn,tc,bb,ov,rfl,w0,w4,r1,r2⟩:=ue h2;simp only[C5]at hc;have q:=hc;exact⟨hd,sa,sn,sc,ta,tn,tc,bb,ov,⟨q 0 (by decide),q 1 (by decide),q 2 (by decide),q 3 (by decide),q 4 (by decide)⟩,w0,w4,r1,r2⟩
  refine⟨some ⟨b,off,none⟩,len,cap,fun i=>if h:i<len then (key i h).choose else 0,zLN,⟨fun _=>⟨b,off,rfl,fun i hi=>?_⟩,by omega⟩⟩;have:=(key i hi).choose_spec;simp only[dif_pos hi];exact this
theorem G0{r:Reach}{b0:Nat}{v:Value}{d:DataW H}{p:List MemPlace}(hv:Value.okWide Tryz.prog W r b0 25 v)(h:DataW.Trod enc Tryz.prog W 0 (fun _=>true) true 25 v d p) :
 ∃la ln lc wa wn wk ra rn rc hd,v=.agg #[.slice la ln lc,.slice wa wn wk,.slice ra rn rc]/\bK W la ln/\bK W wa wn/\XY W ra rn hd:=by
 obtain⟨cs,rfl,zL8⟩:=okWide_struct Tryz.underlying25 hv;obtain⟨fuel,hf⟩:=h;obtain⟨y0,y1,y2,n,hx,hl,h0,h1,h2⟩:=Deep.trod_struct3 Tryz.underlying25 hf;rw[zJY]at hl;have zLN:(Value.agg cs).cells.toList=cs.toList:=by simp[Value.cells]
 rw[zLN]at h0 h1 h2 hl;obtain⟨cs⟩:=cs;simp only at h0 h1 h2 hl
 match cs,hl with
 | [c0,c1,c2],_ =>
   simp only[zG5]at h0 h1;simp only[zHO]at h2;obtain⟨la,ln,lc,e0,r0⟩:=iT (cs:=[c0]) (x:=y0) h0;obtain⟨wa,wn,wk,e1,r1⟩:=iT (cs:=[c1]) (x:=y1) h1;obtain⟨ra,rn,rc,hd,e2,r2⟩:=F0 (cs:=[c2]) (x:=y2) h2;injection e0 with e0 _
   injection e1 with e1 _
   injection e2 with e2 _
   subst e0 e1 e2;exact⟨la,ln,lc,wa,wn,wk,ra,rn,rc,hd,rfl,r0,r1,r2⟩
end
end Go.Proofs.YtnbpdffdnphbeabGreatDoor
