import Derived.Test.YtnbpdffdnphbeabGreatDoorFAbove
import Derived.ProofKit
import Derived.OpenShut
import Derived.Carry
import Derived.Deep.Strs
set_option maxRecDepth 100000
namespace Go.Proofs.YtnbpdffdnphbeabGreatDoor
open Go.RowKit
variable {M:yB} {G:Nat->GR}
variable{cs:List Value}{fuel:Nat}
theorem Ql(M:yB)(i j:Nat):zCV M i j ↔ apB M (zW (dO M)) i j=true:=by
 unfold zCV apB vE;rw[pe,pe,pe,po,po];simp
open Go.ChangeShapes Go.WideShapes Go.ChangeAt Go.WideMaps Go.WideElems
theorem qn:Tryz.prog.cellsOf 3=1:=by kernel_rfl
theorem zGX:Tryz.prog.cellsOf 4=1:=by kernel_rfl
theorem zGV:Tryz.prog.cellsOf 22=1:=by kernel_rfl
theorem zIE:Tryz.prog.cellsOf 23=1:=by kernel_rfl
theorem zID:Tryz.prog.cellsOf 79=1:=by kernel_rfl
theorem zGW:Tryz.prog.cellsOf 81=5:=by kernel_rfl
theorem zGU:Tryz.prog.cellsOf 151=8:=by kernel_rfl
theorem zKM:Tryz.prog.cellsOf 25=3:=by kernel_rfl
theorem Js{c:Int}(h:(Lit.int .i64 c).wf=true):qS c:=by
 simp[Lit.wf,IntKind.min,IntKind.max,IntKind.signed,IntKind.bits]at h;unfold qS;omega
theorem iE{w:World}{a:Addr}{v:Value}(h:w.cell? a=some v):a.spot=none:=by
 unfold World.cell? at h
 cases hs:a.spot with
 | none=>rfl
 | some x=>rw[hs]at h;split at h <;> simp at h
theorem CS(b o i:Nat):(⟨b,o,none⟩:Addr).add i=⟨b,o+i,none⟩:=by simp[Addr.add]
section
variable {H:Type} {enc:TypeId × Value->H} {W:World}
theorem wV{x:DataW H × List MemPlace}(h:DataW.trod enc Tryz.prog W 0 (fun _=>true) true fuel 22 cs=some x):∃a n c,cs=[.slice a n c]/\mK W a n:=by
 rcases open_ints Tryz.underlying22 Tryz.underlying3 qn h with ⟨zM8,_⟩|⟨ad,len,cap',zs,zM8,_,hl,hm,hz,_,hcell,hwz⟩
 ·exact⟨none,0,0,zM8,fun _=>0,⟨fun h=>absurd h (by omega),by unfold maxLen;omega,fun i hi=>absurd hi (by omega)⟩⟩
 ·simp only[dw]at hz
  refine⟨some ad,len,cap',zM8,fun i=>zs.getD i 0,⟨fun h=>?_,by omega,fun i hi=>?_⟩⟩
  ·have hs:=iE (hcell 0 (by omega))
   have hs:ad.spot=none:=by simpa[Addr.add] using hs
   obtain⟨b,off,spot⟩:=ad;obtain rfl:spot=none:=hs;refine⟨b,off,rfl,fun i hi=>?_⟩;have:=hcell i (by omega);rw[CS]at this;exact this
  ·have hi':i<zs.length:=by omega
   refine Js (hwz _ ?_);show zs.getD i 0∈zs;rw[p8,pb hi'];exact fe hi'
theorem cW{c:Value}{x:Option (DataW H × List MemPlace)}{y:DataW H × List MemPlace}(h:DataW.trod enc Tryz.prog W 0 (fun _=>true) true fuel 3 [c]=x)(hx:x=some y):∃z,c=.int .i64 z/\qS z:=by
 rw[hx]at h;obtain⟨n,h1,_,h2⟩:=DataW.trod_int Tryz.underlying3 h;injection h1 with h1 _
 exact⟨n,h1,Js h2⟩
theorem aG{c:Value}{x:Option (DataW H × List MemPlace)}{y:DataW H × List MemPlace}(h:DataW.trod enc Tryz.prog W 0 (fun _=>true) true fuel 4 [c]=x)(hx:x=some y):∃b,c=.bool b:=by
 rw[hx]at h;obtain⟨b,h1,_⟩:=DataW.trod_bool Tryz.underlying4 h;injection h1 with h1 _
 exact⟨b,h1⟩
theorem ux{x:DataW H × List MemPlace}(h:DataW.trod enc Tryz.prog W 0 (fun _=>true) true fuel 151 cs=some x):∃(b1 b2 b3:Bool) (k x y mk n:Int),cs=[.bool b1,.bool b2,.bool b3,.int .i64 k,.int .i64 x,.int .i64 y,.int .i64 mk,.int .i64 n]/\(qS k/\qS x/\qS y/\qS mk/\qS n):=by
 obtain⟨xs,m,_,rfl,hl,hlen,hf⟩:=DataW.trod_struct Tryz.underlying151 h;rw[zGU]at hl
 match cs,hl with
 | [c0,c1,c2,c3,c4,c5,c6,c7],_ =>
   match xs,hlen with
   | [y0,y1,y2,y3,y4,y5,y6,y7],_ =>
     have g0:DataW.trod enc Tryz.prog W 0 (fun _=>true) true m 4 (([c0,c1,c2,c3,c4,c5,c6,c7].drop 0).take (Tryz.prog.cellsOf 4))=_:=hf 0 _ rfl;have g1:DataW.trod enc Tryz.prog W 0 (fun _=>true) true m 4 (([c0,c1,c2,c3,c4,c5,c6,c7].drop 1).take (Tryz.prog.cellsOf 4))=_:=hf 1 _ rfl;have g2:DataW.trod enc Tryz.prog W 0 (fun _=>true) true m 4 (([c0,c1,c2,c3,c4,c5,c6,c7].drop 2).take (Tryz.prog.cellsOf 4))=_:=hf 2 _ rfl;have g3:DataW.trod enc Tryz.prog W 0 (fun _=>true) true m 3 (([c0,c1,c2,c3,c4,c5,c6,c7].drop 3).take (Tryz.prog.cellsOf 3))=_:=hf 3 _ rfl;have g4:DataW.trod enc Tryz.prog W 0 (fun _=>true) true m 3 (([c0,c1,c2,c3,c4,c5,c6,c7].drop 4).take (Tryz.prog.cellsOf 3))=_:=hf 4 _ rfl;have g5:DataW.trod enc Tryz.prog W 0 (fun _=>true) true m 3 (([c0,c1,c2,c3,c4,c5,c6,c7].drop 5).take (Tryz.prog.cellsOf 3))=_:=hf 5 _ rfl;have g6:DataW.trod enc Tryz.prog W 0 (fun _=>true) true m 3 (([c0,c1,c2,c3,c4,c5,c6,c7].drop 6).take (Tryz.prog.cellsOf 3))=_:=hf 6 _ rfl;have g7:DataW.trod enc Tryz.prog W 0 (fun _=>true) true m 3 (([c0,c1,c2,c3,c4,c5,c6,c7].drop 7).take (Tryz.prog.cellsOf 3))=_:=hf 7 _ rfl;rw[zGX]at g0 g1 g2;rw[qn]at g3 g4 g5 g6 g7;obtain⟨b1,rfl⟩:=aG (c:=c0) g0 rfl;obtain⟨b2,rfl⟩:=aG (c:=c1) g1 rfl;obtain⟨b3,rfl⟩:=aG (c:=c2) g2 rfl;obtain⟨k,rfl,w1⟩:=cW (c:=c3) g3 rfl;obtain⟨x,rfl,w2⟩:=cW (c:=c4) g4 rfl;obtain⟨y,rfl,w3⟩:=cW (c:=c5) g5 rfl;obtain⟨mk,rfl,w4⟩:=cW (c:=c6) g6 rfl;obtain⟨n,rfl,w5⟩:=cW (c:=c7) g7 rfl;exact⟨b1,b2,b3,k,x,y,mk,n,rfl,w1,w2,w3,w4,w5⟩
theorem FG{x:DataW H × List MemPlace}(h:DataW.trod enc Tryz.prog W 0 (fun _=>true) true fuel 79 cs=some x):∃a n c,cs=[.slice a n c]/\QN W a n:=by
 rcases Deep.open_slice Tryz.underlying79 h with ⟨zM8,_⟩|⟨ad,len,cap,m,n,D,Pl,zM8,_,hl,hm,hmm,_,hx⟩
 ·exact⟨none,0,0,zM8,⟨fun h=>absurd h (by omega),by unfold maxLen;omega⟩⟩
 ·simp only[dw]at hmm
  rw[zGU]at hx;refine⟨some ad,len,cap,zM8,⟨fun h0=>?_,by omega⟩⟩
  have hsp:ad.spot=none:=by
   obtain⟨cs',h1,h2⟩:=hx 0 (by omega);obtain⟨-,hlen,hc⟩:=World.cells?_some h1;have:=hc 0 (by omega);rw[pb (by omega)]at this;have:=iE this;simpa[Addr.add] using this
  obtain⟨b,off,spot⟩:=ad;obtain rfl:spot=none:=hsp;refine⟨b,off,rfl,fun i hi=>?_⟩;obtain⟨cs',h1,h2⟩:=hx i (by omega);obtain⟨-,hlen,hc⟩:=World.cells?_some h1;obtain⟨b1,b2,b3,k,x,y,mk,n,rfl,hw⟩:=ux h2;simp only[CS]at hc;have q:=hc;exact⟨b1,b2,b3,k,x,y,mk,n,⟨q 0 (by decide),q 1 (by decide),q 2 (by decide),q 3 (by decide),q 4 (by decide),q 5 (by decide),q 6 (by decide),q 7 (by decide)⟩,hw⟩
theorem qz{x:DataW H × List MemPlace}(h:DataW.trod enc Tryz.prog W 0 (fun _=>true) true fuel 81 cs=some x):∃(hd:Int) (sa:Option Addr) (sn sc:Nat) (ta:Option Addr) (tn tc:Nat) (b:Bool) (ov:Int),cs=[.int .i64 hd,.slice sa sn sc,.slice ta tn tc,.bool b,.int .i64 ov]/\qS hd/\qS ov/\mK W sa sn/\QN W ta tn:=by
 obtain⟨xs,m,_,rfl,hl,hlen,hf⟩:=DataW.trod_struct Tryz.underlying81 h;rw[zGW]at hl
 match cs,hl with
 | [c0,c1,c2,c3,c4],_ =>
   match xs,hlen with
   | [y0,y1,y2,y3,y4],_ =>
     have g0:DataW.trod enc Tryz.prog W 0 (fun _=>true) true m 3 (([c0,c1,c2,c3,c4].drop 0).take (Tryz.prog.cellsOf 3))=_:=hf 0 _ rfl;have g1:DataW.trod enc Tryz.prog W 0 (fun _=>true) true m 22 (([c0,c1,c2,c3,c4].drop 1).take (Tryz.prog.cellsOf 22))=_:=hf 1 _ rfl;have g2:DataW.trod enc Tryz.prog W 0 (fun _=>true) true m 79 (([c0,c1,c2,c3,c4].drop 2).take (Tryz.prog.cellsOf 79))=_:=hf 2 _ rfl;have g3:DataW.trod enc Tryz.prog W 0 (fun _=>true) true m 4 (([c0,c1,c2,c3,c4].drop 3).take (Tryz.prog.cellsOf 4))=_:=hf 3 _ rfl;have g4:DataW.trod enc Tryz.prog W 0 (fun _=>true) true m 3 (([c0,c1,c2,c3,c4].drop 4).take (Tryz.prog.cellsOf 3))=_:=hf 4 _ rfl;rw[qn]at g0 g4;rw[zGV]at g1;rw[zID]at g2;rw[zGX]at g3;obtain⟨hd,rfl,w0⟩:=cW (c:=c0) g0 rfl;obtain⟨b,rfl⟩:=aG (c:=c3) g3 rfl;obtain⟨ov,rfl,w4⟩:=cW (c:=c4) g4 rfl;obtain⟨sa,sn,sc,e1,r1⟩:=wV (cs:=[c1]) (x:=y1) g1;obtain⟨ta,tn,tc,e2,r2⟩:=FG (cs:=[c2]) (x:=y2) g2;injection e1 with e1 _
     injection e2 with e2 _
     subst e1 e2;exact⟨hd,sa,sn,sc,ta,tn,tc,b,ov,rfl,w0,w4,r1,r2⟩
theorem Ge{x:DataW H × List MemPlace}(h:DataW.trod enc Tryz.prog W 0 (fun _=>true) true fuel 23 cs=some x):∃a n c hd,cs=[.slice a n c]/\QO W a n hd:=by
 rcases Deep.open_slice Tryz.underlying23 h with ⟨zM8,_⟩|⟨ad,len,cap,m,n,D,Pl,zM8,_,hl,hm,hmm,_,hx⟩
 ·exact⟨none,0,0,fun _=>0,zM8,⟨fun h=>absurd h (by omega),by unfold maxLen;omega⟩⟩
 ·simp only[dw]at hmm
  rw[zGW]at hx;by_cases h0:len=0
  ·exact⟨some ad,len,cap,fun _=>0,zM8,⟨fun h=>absurd h (by omega),by omega⟩⟩
  have hsp:ad.spot=none:=by
   obtain⟨cs',h1,h2⟩:=hx 0 (by omega);obtain⟨-,hlen,hc⟩:=World.cells?_some h1;have:=hc 0 (by omega);rw[pb (by omega)]at this;have:=iE this;simpa[Addr.add] using this
  obtain⟨b,off,spot⟩:=ad;obtain rfl:spot=none:=hsp
  have key:∀i,i<len->∃(hd:Int) (sa:Option Addr) (sn sc:Nat) (ta:Option Addr) (tn tc:Nat) (bb:Bool) (ov:Int),(W.cell? ⟨b,off+i*5,none⟩=some (.int .i64 hd)/\W.cell? ⟨b,off+i*5+1,none⟩=some (.slice sa sn sc)/\W.cell? ⟨b,off+i*5+2,none⟩=some (.slice ta tn tc)/\W.cell? ⟨b,off+i*5+3,none⟩=some (.bool bb)/\W.cell? ⟨b,off+i*5+4,none⟩=some (.int .i64 ov))/\qS hd/\qS ov/\mK W sa sn/\QN W ta tn:=fun i hi=>by
   obtain⟨cs',h1,h2⟩:=hx i (by omega);obtain⟨-,hlen,hc⟩:=World.cells?_some h1;obtain⟨hd,sa,sn,sc,ta,tn,tc,bb,ov,rfl,w0,w4,r1,r2⟩:=qz h2;simp only[CS]at hc;have q:=hc;exact⟨hd,sa,sn,sc,ta,tn,tc,bb,ov,⟨q 0 (by decide),q 1 (by decide),q 2 (by decide),q 3 (by decide),q 4 (by decide)⟩,w0,w4,r1,r2⟩
  refine⟨some ⟨b,off,none⟩,len,cap,fun i=>if h:i<len then (key i h).choose else 0,zM8,⟨fun _=>⟨b,off,rfl,fun i hi=>?_⟩,by omega⟩⟩;have:=(key i hi).choose_spec;simp only[dif_pos hi];exact this
theorem zk{r:Reach}{b0:Nat}{v:Value}{d:DataW H}{p:List MemPlace}(hv:Value.okWide Tryz.prog W r b0 25 v)(h:DataW.Trod enc Tryz.prog W 0 (fun _=>true) true 25 v d p) :
 ∃la ln lc wa wn wk ra rn rc hd,v=.agg #[.slice la ln lc,.slice wa wn wk,.slice ra rn rc]/\mK W la ln/\mK W wa wn/\QO W ra rn hd:=by
 obtain⟨cs,rfl,zLQ⟩:=okWide_struct Tryz.underlying25 hv;obtain⟨fuel,hf⟩:=h;obtain⟨y0,y1,y2,n,hx,hl,h0,h1,h2⟩:=Deep.trod_struct3 Tryz.underlying25 hf;rw[zKM]at hl;have zM8:(Value.agg cs).cells.toList=cs.toList:=by simp[Value.cells]
 rw[zM8]at h0 h1 h2 hl;obtain⟨cs⟩:=cs;simp only at h0 h1 h2 hl
 match cs,hl with
 | [c0,c1,c2],_ =>
   simp only[zGV]at h0 h1;simp only[zIE]at h2;obtain⟨la,ln,lc,e0,r0⟩:=wV (cs:=[c0]) (x:=y0) h0;obtain⟨wa,wn,wk,e1,r1⟩:=wV (cs:=[c1]) (x:=y1) h1;obtain⟨ra,rn,rc,hd,e2,r2⟩:=Ge (cs:=[c2]) (x:=y2) h2;injection e0 with e0 _
   injection e1 with e1 _
   injection e2 with e2 _
   subst e0 e1 e2;exact⟨la,ln,lc,wa,wn,wk,ra,rn,rc,hd,rfl,r0,r1,r2⟩
end
end Go.Proofs.YtnbpdffdnphbeabGreatDoor
