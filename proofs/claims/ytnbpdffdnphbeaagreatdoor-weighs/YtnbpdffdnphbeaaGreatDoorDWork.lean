import Derived.Test.YtnbpdffdnphbeaaGreatDoorDAgain
import Derived.Test.YtnbpdffdnphbeaaGreatDoorMWork
set_option maxHeartbeats 4000000
set_option maxRecDepth 100000
namespace Go.Proofs.YtnbpdffdnphbeaaGreatDoor
open Go.RowKit
theorem fP.set{B N k g j:Nat}{w:World}{v u:Value}{gs:List Nat}{m:Nat->Nat->Bool}{cs:Array Value}(h:fP B w v gs m N k)(hg:w.heap[g]? = some (.cells cs 170 (0,0)))(zFZ:g<B):fP B (w.setCell ⟨g,j,none⟩ u) v gs m N k :=
 ⟨h.len,xN h.own zFZ,fun i hi=>(h.rows i hi).other (p:=⟨g,j,none⟩) (fun e=>by
  have h1:w.heap[gs.getD i 0]? = some (.cells (gC (jY m i N N)) 4 (0,0)):=h.rows i hi;rw[show gs.getD i 0=g from e,hg]at h1;simp only[Option.some.injEq,Obj.cells.injEq]at h1;exact absurd h1.2.1 (by decide)) _⟩
theorem Zr{P:Program}{w:World}{ops:Array Oper}{rest:List Oper}{o:Oper}{a:Act}{Q:Exit->Act->World->Prop}(zGC:o.guard=none)(d s:Operand)(dT sT:TypeId)
 (ho:o.op=.call { callee:=.builtin .copy,args := #[d,s],argTypes := #[dT,sT] }) (elem:TypeId) (hu:P.underlying dT=some (.slice elem)) (zG9:(P.info? elem).map (·.size)=some 1)
 (dp sp:Option Addr) (dLen dCap sLen sCap:Nat) (hd:a.eval d=.slice dp dLen dCap) (hs:a.eval s=.slice sp sLen sCap)
 (g off:Nat) (yP:List Value) (t:TypeId) (hg:w.heap[g]? = some (.cells yP.toArray t (0,0))) (cs:List Value) (hn:cs.length=Nat.min sLen dLen)
 (hpos:0<cs.length->dp=some ⟨g,off,none⟩/\∃ad,sp=some ad/\∀j v,cs[j]? = some v->w.cell? (ad.add j)=some v)
 (hfit:off+cs.length<=yP.length) (h1:∀v∈cs,v.oneCell'=true)
 (h:∀w',w'.heap[g]? = some (.cells (splice yP off cs).toArray t (0,0))->xL g w w'->wpList P ops Q rest (a.put o.dst (goInt cs.length)) w') :
 wpList P ops Q (o::rest) a w:=by
 by_cases h0:cs.length=0
 ·obtain rfl:cs=[]:=List.eq_nil_of_length_eq_zero h0
  refine wpList_copy_nothing zGC d s dT sT ho elem hu zG9 dp sp dLen dCap sLen sCap hd hs (by simpa using hn.symm) ?_;exact h w (show _=_ by simpa[splice] using hg) (xL.refl _ _)
 ·obtain⟨rfl,ad,rfl,hsrc⟩:=hpos (by omega)
  refine wpList_copy_own zGC d s dT sT ho elem hu zG9 g off dLen dCap ad sLen sCap hd hs yP.toArray t hg cs hn hsrc (by simpa using hfit) h1 ?_;exact h _ (show _=_ by simpa[splice] using setRow_heap w g _ _ t _ hg) ⟨rfl,rfl,rfl,by simp[World.setRow],fun k _ zG8=>setRow_other w g k _ zG8⟩
theorem qQ.other{w:World}{g:Nat}{l:List Int}(h:qQ w (some ⟨g,0,none⟩) l){p:Addr}(hp:g≠p.block)(u:Value):qQ (w.setCell p u) (some ⟨g,0,none⟩) l:=by
 refine⟨?_,h.few⟩;rcases h.cel with h1|⟨g',e,h2⟩
 ·exact .inl h1
 ·obtain rfl:g=g':=by simpa using e
  refine .inr ⟨g,rfl,fun j hj=>?_⟩
  have e1:(w.setCell p u).cell? ⟨g,j,none⟩=w.cell? ⟨g,j,none⟩:=by
   unfold World.cell?;rw[Below.heap_setCell _ _ _ _ hp]
  rw[e1];exact h2 j hj
theorem aJ.below{w w':World}{b:Nat}{us:List zI}{names:List Bs}{ins:Nat}{rs:List RX}(h:aJ w b us names ins rs)(hb:Below w.heap.size w w'):aJ w' b us names ins rs:=by
 obtain⟨la,lc,h1,h2⟩:=h.lines;obtain⟨ra,rc,h3,h4⟩:=h.rul;exact⟨⟨la,lc,by rw[hb.cell (p:=⟨b,0,none⟩) (xG h1)];exact h1,h2.below hb⟩,h.nam.below hb,by rw[hb.cell (p:=⟨b,2,none⟩) (xG h.ins)];exact h.ins,⟨ra,rc,by rw[hb.cell (p:=⟨b,3,none⟩) (xG h3)];exact h3,h4.below hb⟩,fun x hx=>(h.rows x hx).below hb,h.few⟩
structure zFC(w:World)(B g:Nat)(W:pJ):Prop where
 rows:∃gR rc gK kc gV vc,w.heap[g]? = some (.cells #[.slice (some ⟨gR,0,none⟩) W.rules.length rc,.slice (some ⟨gK,0,none⟩) W.kinds.length kc,.slice (some ⟨gV,0,none⟩) W.vals.length vc] 170 (0,0))/\rE w (some ⟨gR,0,none⟩) (some ⟨gK,0,none⟩) (some ⟨gV,0,none⟩) W/\(g≠gR/\g≠gK/\g≠gV)/\B<gR/\B<gK/\B<gV
theorem zFC.below{w w':World}{B g:Nat}{W:pJ}(h:zFC w B g W)(hb:Below w.heap.size w w'):zFC w' B g W:=by
 obtain⟨gR,rc,gK,kc,gV,vc,h1,h2,h3⟩:=h.rows;exact⟨gR,rc,gK,kc,gV,vc,by rw[hb.block g (yD h1)];exact h1,h2.below hb,h3⟩
theorem zEQ(w:World)(b:Nat)(ls:List zH)(us:List zI)(names:List Bs)(ins:Nat)(rs:List RX)(ia:Option Addr)(ic:Nat)(inp:List Int)(hB:aJ w b us names ins rs)(hA:yX ls us)(hi:qQ w ia inp)(hil:inp.length=ins)(zGB:ins<=names.length)(hlab:rs.length=(pZ us).length)
 (I:Nat->pJ->Prop) (h0:I 0 ⟨List.replicate rs.length 0,List.replicate names.length 0,inp++List.replicate (names.length-ins) 0⟩)
 (zGG:∀k W,ins+k<names.length->I k W->W.kinds.length=names.length/\W.vals.length=names.length/\∀x∈rs,zD3 ins names.length W x.1)
 (hnx:∀k W W',ins+k<names.length->I k W->aX ins names.length (rs.map Prod.fst) (Yy us) W W'->I (k+1) W') :
 Calls Tryz.prog 68 #[.pointer (some ⟨b,0,none⟩),.slice ia inp.length ic] w fun e w'=>∃ra rc ka kc va vc W,e=.returned (.agg #[.slice ra W.rules.length rc,.slice ka W.kinds.length kc,.slice va W.vals.length vc])/\rE w' ra ka va W/\I (names.length-ins) W/\Below w.heap.size w w':=by
 obtain⟨na,nc,hn1,hns⟩:=hB.nam;have hi2:=hB.ins;obtain⟨ra4,rc4,hr3,hrc⟩:=hB.rul;have hfn:=hns.few;have hfr:=hB.few;have hbl:=xG hi2;obtain⟨i0,hi0,hz0,hz1,hz2⟩:=info_parts CV;have HBk:=zA hB;have HIn:=zA hi;have hmkB:=run_make_row' (P:=Tryz.prog) 180 4 (.bool false) 1 Tryz.underlying180 mA rfl .i64 .i64 rs.length (by omega) (by omega);rw[tV]at hmkB;have hmkN:=run_make_row' (P:=Tryz.prog) 59 3 (.int .i64 0) 8 Tryz.underlying59 mX rfl .i64 .i64 names.length (by omega) (by omega);have hmkM:=run_make_row' (P:=Tryz.prog) 59 3 (.int .i64 0) 8 Tryz.underlying59 mX rfl .i64 .i64 rs.length (by omega) (by omega);rw[dR]at hmkN hmkM;have HAb:Hid (∀w',Below w.heap.size w w'->∀i k:Nat,k<rs.length->Calls Tryz.prog 82 #[.pointer (some ⟨b,0,none⟩),.int .i64 i,.int .i64 k] w' fun e w''=>e=.returned (.bool (Yy us i k))/\Below w'.heap.size w' w''):=fun w' hb i k hk=>zCL w' b ls us names ins rs i k (HBk.out.below hb) hA (by rw[<-hlab];exact hk);generalize Yy us=abv at *
 have HAg:Hid (∀w' k W (gR gK gV rc kc vc:Nat) (aa:Option Addr) (ac B0:Nat) (gs:List Nat),Below w.heap.size w w'->ins+k<names.length->I k W->rE w' (some ⟨gR,0,none⟩) (some ⟨gK,0,none⟩) (some ⟨gV,0,none⟩) W->fP B0 w' (.slice aa rs.length ac) gs abv rs.length rs.length->Calls Tryz.prog 116 #[.pointer (some ⟨b,0,none⟩),.agg #[.slice (some ⟨gR,0,none⟩) W.rules.length rc,.slice (some ⟨gK,0,none⟩) W.kinds.length kc,.slice (some ⟨gV,0,none⟩) W.vals.length vc],.slice aa rs.length ac] w' fun e w''=>∃gR' gK' gV' W',e=.returned (.agg #[.slice (some ⟨gR',0,none⟩) W'.rules.length rs.length,.slice (some ⟨gK',0,none⟩) W'.kinds.length names.length,.slice (some ⟨gV',0,none⟩) W'.vals.length names.length])/\rE w'' (some ⟨gR',0,none⟩) (some ⟨gK',0,none⟩) (some ⟨gV',0,none⟩) W'/\I (k+1) W'/\(w'.heap.size<=gR'/\w'.heap.size<=gK'/\w'.heap.size<=gV')/\Below w'.heap.size w' w''):=fun w' k W gR gK gV rc kc vc aa ac B0 gs hb hk hI hV hM=>by
  obtain⟨e1,e2,e3⟩:=zGG k W hk hI;refine(zCA w' b us names ins rs _ _ _ rc kc vc W (HBk.out.below hb) zGB hV e1 e2 aa ac B0 gs abv hM (fun x hx=>(e3 x hx).app) (fun x hx=>(e3 x hx).sum) (fun x hx=>(e3 x hx).head)).mono ?_;rintro e w'' ⟨gR',gK',gV',W',h1,h2,h3,h4,h5⟩;exact⟨gR',gK',gV',W',h1,h2,hnx k W W' hk hI h3,h4,h5⟩
 have HI0:=zA h0;have HIl:=zA hil;clear hB hi hns hrc zGG hnx h0 hA hlab;generalize hN:names.length=N at *;clear hN;have nb:w.heap.size≠b:=by omega
 have hMl:inp.length<=N:=by omega
 clear hil
 go_enter Tryz.func68,Tryz.ntmps68
 go_upto_region 1 with fail
 have y0:(w.alloc (.cells #[.slice none 0 0,.slice none 0 0,.slice none 0 0] 170)).heap[w.heap.size]? = some (.cells #[.slice none 0 0,.slice none 0 0,.slice none 0 0] 170):=zS _ _;have hb0:Below w.heap.size w (w.alloc (.cells #[.slice none 0 0,.slice none 0 0,.slice none 0 0] 170)):=(Below.refl _ _).alloc (Nat.le_refl _) _;have hs0:(w.alloc (.cells #[.slice none 0 0,.slice none 0 0,.slice none 0 0] 170)).heap.size=w.heap.size+1:=by simp
 generalize (w.alloc (.cells #[.slice none 0 0,.slice none 0 0,.slice none 0 0] 170))=w1 at *;have HB1:=zA hb0;have HY1:=zA y0;have n1:w1.cell? ⟨b,1,none⟩=some (.slice na N nc):=by rw[HB1.out.cell (p:=⟨b,1,none⟩) hbl];exact hn1
 have i1:w1.cell? ⟨b,2,none⟩=some (.int .i64 (ins:Int)):=by rw[HB1.out.cell (p:=⟨b,2,none⟩) hbl];exact hi2
 have r1:w1.cell? ⟨b,3,none⟩=some (.slice ra4 rs.length rc4):=by rw[HB1.out.cell (p:=⟨b,3,none⟩) hbl];exact hr3
 have hbl1:b<w1.heap.size:=by omega
 have m1:w1.heap.size≠b:=by omega
 have m2:w1.heap.size+1≠b:=by omega
 have m3:w1.heap.size+2≠b:=by omega
 have m4:w1.heap.size+3≠b:=by omega
 have m5:b<w1.heap.size+1:=by omega
 have m6:b<w1.heap.size+2:=by omega
 have m7:b<w1.heap.size+3:=by omega
 have m8:b<w1.heap.size+1+1:=by omega
 have m9:b<w1.heap.size+1+1+1:=by omega
 have hs1:w.heap.size+1<=w1.heap.size:=by omega
 clear hb0 y0 hn1 hi2 hr3 hs0
 go_cut [5] from 11 to 87 (fun v8 wx=>∃g8 gR gK gV,v8=.pointer (some ⟨g8,0,none⟩)/\Hid (dN wx w1.heap.size g8 gR gK gV rs.length N (List.replicate rs.length 0) (List.replicate N 0) (List.replicate N 0))/\Hid (Below w1.heap.size w1 wx))
 case first =>
  as_aux_lemma =>
   go_region
   all_goals
    go_wp2_with fail
    go_meet
    exact⟨_,_,_,_,rfl,zA ⟨by repeat (with_reducible first|(refine gJ _ _ _ ?_;simp;done)|refine yI ?_|refine zQ ?_),by (unfold kF;repeat (with_reducible first|(refine gJ _ _ _ ?_;simp;done)|refine yI ?_|refine zQ ?_)),by (unfold kF;repeat (with_reducible first|(refine gJ _ _ _ ?_;simp;done)|refine yI ?_|refine zQ ?_)),by (unfold kF;repeat (with_reducible first|(refine gJ _ _ _ ?_;simp;done)|refine yI ?_|refine zQ ?_)),by simp,by simp,by simp,by omega,by omega⟩,zA (((((Below.refl _ _).alloc (Nat.le_refl _) _).alloc (by simp) _).alloc (by simp;omega) _).alloc (by simp;omega) _).drew⟩
 case rest =>
  obtain⟨g8,gR,gK,gV,rfl,HNv,HB2⟩:=hcut;clear hmkN hmkM m1 m2 m3 m4 m5 m6 m7 m8 m9;have hs2:=HB2.out.size;have y2:=zF HNv.out.vw 2;simp only[List.getElem?_toArray,List.getElem?_cons_zero,List.getElem?_cons_succ]at y2;have hcp:=HNv.out.v;unfold kF at hcp;have zGK:Hid (Below w.heap.size w wc):=HB1.out.trans (HB2.out.mono (by omega));have HIc:=zA (HIn.out.below zGK.out);have HCw:Hid (wc.heap[gV]? = some (.cells (vR (List.replicate N 0)).toArray 3 (0,0))):=hcp;have hc1:(vR inp).length=Nat.min inp.length N:=by rw[qS];exact(Nat.min_eq_left hMl).symm
  have hc2:0<(vR inp).length->∃ad,ia=some ad/\∀j v,(vR inp)[j]? = some v->wc.cell? (ad.add j)=some v:=fun h0=>by
   obtain⟨g',e',c'⟩:=HIc.out.at (show 0<inp.length by rw[qS]at h0;omega);refine⟨_,e',fun j v hj=>?_⟩;have hjl:j<inp.length:=by rw[<-qS];exact(List.getElem?_eq_some_iff.1 hj).1
   obtain⟨g'',e'',c''⟩:=HIc.out.at hjl;obtain rfl:g'=g'':=by rw[e']at e'';simpa using e''
   rw[aF,c''];rw[nU _ _ hjl]at hj;exact hj
  have hc3:0+(vR inp).length<=(vR (List.replicate N 0)).length:=by rw[qS,qS,List.length_replicate];omega
  have hc4:∀v∈vR inp,v.oneCell'=true:=fun v hv=>by
   obtain⟨x,_,rfl⟩:=List.mem_map.1 hv;rfl
  have HSp:Hid (some (Obj.cells (splice (vR (List.replicate N 0)) 0 (vR inp)).toArray 3 (0,0))=some (.cells (iC (inp++List.replicate (N-ins) 0)) 3 (0,0))):=by
   unfold Hid splice iC;rw[aR,qS,Nat.zero_add,HIl.out];simp[vR]
  have HC1:=zA hc1;have HC2:=zA hc2;have HC3:=zA hc3;have HC4:=zA hc4;clear hc1 hc2 hc3 hc4 hcp;have HSz:Hid ((Tryz.prog.info? 3).map (·.size)=some 1):=by unfold Hid;kernel_rfl
  have HC5:Hid (0<(vR inp).length->(some ⟨gV,0,none⟩:Option Addr)=some ⟨gV,0,none⟩/\∃ad,ia=some ad/\∀j v,(vR inp)[j]? = some v->wc.cell? (ad.add j)=some v):=fun h=>⟨rfl,HC2.out h⟩
  go_wp2_with (with_reducible refine Zr ?hg (.tmp 31) (.tmp 32) 59 59 ?zGS 3 Tryz.underlying59 HSz.out (some ⟨gV,0,none⟩) ia N N inp.length ic ?hd ?hs gV 0 (vR (List.replicate N 0)) 3 HCw.out (vR inp) HC1.out HC5.out HC3.out HC4.out ?_
               case hg=>rfl
               case zGS=>rfl
               case hd=>rfl
               case hs=>rfl)
  intro w3 hw3 hon;obtain⟨a1,a2,a3,a4,a5,a6⟩:=HNv.out.apart;have HNw:Hid (dN w3 w1.heap.size g8 gR gK gV rs.length N (List.replicate rs.length 0) (List.replicate N 0) (inp++List.replicate (N-ins) 0)):=⟨by rw[hon.block g8 (yD HNv.out.vw) a6];exact HNv.out.vw,HNv.out.r.only hon a2,HNv.out.k.only hon a3,by unfold kF;rw[hw3];exact HSp.out,HNv.out.lr,HNv.out.lk,by have:=HIl.out;simp;omega,HNv.out.lo,HNv.out.apart⟩;have HB3:Hid (Below w1.heap.size w1 w3):=HB2.out.trans (hon.below (by omega) HNv.out.lo.2.2.2);clear HNv HB2 y2 HSz HC5 HC1 HC2 HC3 HC4 HCw HSp zGK HIc hs2 hw3 hon a1 a2 a3 a4 a5 a6;generalize hwB:w3=wB at *;clear hwB;have hs3:=HB3.out.size;have HC9:Hid (∀wx,Below wB.heap.size wB wx->wx.cell? ⟨b,1,none⟩=some (.slice na N nc)/\wx.cell? ⟨b,2,none⟩=some (.int .i64 (ins:Int))/\wx.cell? ⟨b,3,none⟩=some (.slice ra4 rs.length rc4)):=fun wx hb=>⟨by rw[hb.cell (p:=⟨b,1,none⟩) (show b<wB.heap.size by omega),HB3.out.cell (p:=⟨b,1,none⟩) hbl1];exact n1,by rw[hb.cell (p:=⟨b,2,none⟩) (show b<wB.heap.size by omega),HB3.out.cell (p:=⟨b,2,none⟩) hbl1];exact i1,by rw[hb.cell (p:=⟨b,3,none⟩) (show b<wB.heap.size by omega),HB3.out.cell (p:=⟨b,3,none⟩) hbl1];exact r1⟩;have HC8:Hid (∀wx,Below w.heap.size w wx->wx.cell? ⟨b,1,none⟩=some (.slice na N nc)):=fun wx hb=>by rw[hb.cell (p:=⟨b,1,none⟩) hbl,<-HB1.out.cell (p:=⟨b,1,none⟩) hbl];exact n1
  have hl8:=HNw.out.lo;have h8B:g8<wB.heap.size:=yD HNw.out.vw;have HBB:Hid (Below w.heap.size w wB):=HB1.out.trans (HB3.out.mono (by omega));have hwB:w.heap.size<=wB.heap.size:=by omega
  clear n1 i1 r1;obtain⟨n3,i3,r3⟩:=HC9.out wB (Below.refl _ _);go_wp2_with fail
  clear n3 i3 r3
  go_loopw [6,7] (fun av kv wr=>∃(k:Nat) (gs:List Nat),k<=rs.length/\kv=.int .i64 k/\Hid (fP wB.heap.size wr av gs abv rs.length k)/\Hid (Below wB.heap.size wB wr)) (fun _ kv _=>rs.length-(intOf kv).toNat)
  case atStart=>exact⟨0,[],Nat.zero_le _,rfl,zA ⟨rfl,World.ownsRow_nil _ _ _ _,fun j hj=>absurd hj (by omega)⟩,zA (Below.refl _ _)⟩
  case round =>
   obtain⟨k,gs,hk,rfl,HM,HB⟩:=hrel;have zG9:=HB.out.size;have HBwk:Hid (Below w.heap.size w wr):=HBB.out.trans (HB.out.mono hwB);obtain⟨n4,i4,r4⟩:=HC9.out wr HB.out;by_cases zFZ:k<rs.length
   ·have kk:(k:Int)<(rs.length:Int):=by omega
    obtain⟨wo,hwo⟩:∃wo,wo=wr:=⟨_,rfl⟩;subst hwo;go_wp2_with fail
    have HM0:Hid (xV (wo.alloc (.cells (gC (List.replicate rs.length false)) 4)) wo.heap.size (jY abv k rs.length 0)):=by
     unfold Hid xV;rw[YY];exact zS _ _
    have HO0:Hid (Below wo.heap.size wo (wo.alloc (.cells (gC (List.replicate rs.length false)) 4))):=(Below.refl _ _).alloc (Nat.le_refl _) _;have hS0:wo.heap.size<(wo.alloc (.cells (gC (List.replicate rs.length false)) 4)).heap.size:=zD _ _;generalize wo.alloc (.cells (gC (List.replicate rs.length false)) 4)=wq at *;clear n4 i4 r4
    go_loopw [9] (fun iv wr=>∃(i:Nat),i<=rs.length/\iv=.int .i64 i/\Hid (xV wr wo.heap.size (jY abv k rs.length i))/\Hid (Below wo.heap.size wo wr)) (fun iv _=>rs.length-(intOf iv).toNat)
    case atStart=>exact⟨0,Nat.zero_le _,rfl,HM0,HO0⟩
    case round =>
     obtain⟨i,hi,rfl,HMi,HOi⟩:=hrel;clear HM0 HO0;have HBwi:Hid (Below w.heap.size w wr):=HBwk.out.trans (HOi.out.mono (by omega));obtain⟨n5,i5,r5⟩:=HC9.out wr (HB.out.trans (HOi.out.mono zG9));by_cases hlti:i<rs.length
     ·have ii:(i:Int)<(rs.length:Int):=by omega
      have HCa:Hid (Calls Tryz.prog 82 #[.pointer (some ⟨b,0,none⟩),.int .i64 k,.int .i64 i] wr fun e w''=>e=.returned (.bool (abv k i))/\Below wr.heap.size wr w''):=HAb.out wr HBwi.out k i hlti;have HV:Hid ((jY abv k rs.length i).set i (abv k i)=jY abv k rs.length (i+1)):=Q9 abv k rs.length i;have HLn:Hid (i<(jY abv k rs.length i).length):=by unfold Hid;rw[nP];exact hlti
      generalize abv k i=z at *;go_wp2_with fail
      refine HCa.out.mono ?_;rintro e w5 ⟨rfl,hb5⟩;have HM5:=zA (HMi.out.below hb5);have HO5:Hid (Below wo.heap.size wo w5):=HOi.out.trans (hb5.mono HOi.out.size);have hcz:=HM5.out.cell HLn.out;have hfz:=HM5.out.free i;generalize (jY abv k rs.length i).getD i false=oz at *;clear hb5;go_wp2_with fail
      go_roundw
      case rel=>exact⟨i+1,by omega,by go_num,zA (by rw[<-HV.out];exact HM5.out.set i z),zA (HO5.out.setCell (p:=⟨wo.heap.size,i,none⟩) (Nat.le_refl _) _)⟩
      case measure=>simp[intOf];omega
     ·obtain rfl:i=rs.length:=by omega
      have ii:¬(rs.length:Int)<(rs.length:Int):=by omega
      have HMr:=zA (HM.out.below HOi.out);have zGQ:Hid (Below wB.heap.size wB wr):=HB.out.trans (HOi.out.mono zG9);have zGL:wB.heap.size<=wr.heap.size:=Nat.le_trans zG9 HOi.out.size;have hgl:gs.length<=rs.length:=by rw[HM.out.len];omega
      have HML:=zA HM.out.len;clear HOi
      go_wp2_with (at_builtin;refine wpList_append_own _ rfl _ _ 253 rfl wB.heap.size 180 i0 _ 1 24 Tryz.underlying253 hi0 hz0 hz1 hz2 rfl (by decide) _ _ _ rfl (HMr.out.own.alloc _) ⟨wr.heap.size,0,none⟩ 1 1 [DC rs.length wo.heap.size] rfl rfl ?c1 ?c2 ?c3 ?c4 ?c5 ?_)
      case c1=>first|exact xI _ _ _ _ rfl|exact fun _ _ h=>h
      case c2=>first|rfl|(intro u hu;simp at hu;subst hu;rfl)
      case c3=>unfold maxLen;omega
      case c4=>omega
      case c5=>first|omega|(simp;omega)
      intro v' w2 zG2 zG0 _;have HB2:Hid (Below wB.heap.size wB w2):=(zGQ.out.alloc zGL _).grown zG0 (by simp;omega) (zZ HMr.out.own)
      have HM2:Hid (fP wB.heap.size w2 v' (gs++[wo.heap.size]) abv rs.length (k+1)):=by
       refine fP.snoc (w:=wr.alloc _) ⟨HMr.out.len,HMr.out.own.alloc _,fun j hj=>?_⟩ ?_ zG0 zG2
       ·exact(HMr.out.rows j hj).below ((Below.refl _ _).alloc (Nat.le_refl _) _)
       ·exact HMi.out.below ((Below.refl _ _).alloc (Nat.le_refl _) _)
      clear zG0 zG2;go_wp2_with fail
      go_roundw
      case rel=>exact⟨k+1,gs++[wo.heap.size],by omega,by go_num,HM2,HB2⟩
      case measure=>simp[intOf];omega
   ·obtain rfl:k=rs.length:=by omega
    have kk:¬(rs.length:Int)<(rs.length:Int):=by omega
    obtain⟨aa,ac,eav⟩:=vN HM.out.own;rw[HM.out.len]at eav;subst eav
    have HVw0:Hid (zFC wr w.heap.size g8 ⟨List.replicate rs.length 0,List.replicate N 0,inp++List.replicate (N-ins) 0⟩):=by
     have h9:=HNw.out.below HB.out;obtain⟨a1,a2,a3,a4,a5,a6⟩:=h9.apart;refine⟨gR,rs.length,gK,N,gV,N,?_,⟨h9.r.ints (by rw[h9.lr];exact hfr),h9.k.ints (by rw[h9.lk];exact hfn),h9.v.ints (by rw[h9.lv];exact hfn)⟩,⟨a4,a5,a6⟩,by omega,by omega,by omega⟩;rw[h9.vw,h9.lr,h9.lk,h9.lv]
    have HY:Hid (wr.heap[w.heap.size]? = some (.cells #[.slice none 0 0,.slice none 0 0,.slice none 0 0] 170)):=by
     unfold Hid;rw[HB.out.block _ (by omega),HB3.out.block _ (by omega)];exact HY1.out
    have e8:w.heap.size≠g8:=by omega
    go_wp2_with fail
    clear n4 i4 r4 HNw HY1 HB
    go_loopw [10] (fun nv wx=>∃(n k:Nat) (W:pJ),Hid (n=ins+k)/\n<=N/\nv=.int .i64 n/\Hid (I k W)/\Hid (zFC wx w.heap.size g8 W)/\Hid (fP wB.heap.size wx (.slice aa rs.length ac) gs abv rs.length rs.length)/\Hid (Below w.heap.size w wx)/\Hid (wx.heap[w.heap.size]? = some (.cells #[.slice none 0 0,.slice none 0 0,.slice none 0 0] 170))) (fun nv _=>N-(intOf nv).toNat)
    case atStart=>exact⟨ins,0,_,zA rfl,zGB,rfl,HI0,HVw0,HM,HBwk,HY⟩
    case round =>
     clear HVw0 HM HBwk HY HI0;obtain⟨n,k,W,HNk,hn,rfl,HIk,HVw,HMt,HBx,HY⟩:=hrel;have n6:=HC8.out wr HBx.out;obtain⟨gR',rc',gK',kc',gV',vc',hg8,hVV,e1,e2,e3,e4⟩:=HVw.out.rows;have HG8:=zA hg8;have HVV:=zA hVV;have z0:wr.cell? ⟨g8,0,none⟩=some (.slice (some ⟨gR',0,none⟩) W.rules.length rc'):=(zF hg8 0).trans rfl;have z1:wr.cell? ⟨g8,1,none⟩=some (.slice (some ⟨gK',0,none⟩) W.kinds.length kc'):=(zF hg8 1).trans rfl;have z2:wr.cell? ⟨g8,2,none⟩=some (.slice (some ⟨gV',0,none⟩) W.vals.length vc'):=(zF hg8 2).trans rfl;have l8r:g8<wr.heap.size:=yD hg8;clear hg8 hVV;by_cases hltn:n<N
     ·have nn:(n:Int)<(N:Int):=by omega
      have HCa:=zA (HAg.out wr k W gR' gK' gV' rc' kc' vc' aa ac _ gs HBx.out (by have:=HNk.out;omega) HIk.out HVV.out HMt.out);go_wp2_with fail
      refine HCa.out.mono ?_;rintro e w5 ⟨gR2,gK2,gV2,W',rfl,hV5,hI5,hlo5,hb5⟩;have HV5:=zA hV5;have HI5:=zA hI5;have HM5:=zA (HMt.out.below hb5);have HG5:Hid (w5.heap[g8]? = some (.cells #[.slice (some ⟨gR',0,none⟩) W.rules.length rc',.slice (some ⟨gK',0,none⟩) W.kinds.length kc',.slice (some ⟨gV',0,none⟩) W.vals.length vc'] 170 (0,0))):=by unfold Hid;rw[hb5.block g8 l8r];exact HG8.out
      have HB5:Hid (Below w.heap.size w w5):=HBx.out.trans (hb5.mono HBx.out.size);have HY5:Hid (w5.heap[w.heap.size]? = some (.cells #[.slice none 0 0,.slice none 0 0,.slice none 0 0] 170)):=by unfold Hid;rw[hb5.block _ (yD HY.out)];exact HY.out
      have d0:w5.cell? ⟨g8,0,none⟩=some (.slice (some ⟨gR',0,none⟩) W.rules.length rc'):=(zF HG5.out 0).trans rfl;have d1:w5.cell? ⟨g8,1,none⟩=some (.slice (some ⟨gK',0,none⟩) W.kinds.length kc'):=(zF HG5.out 1).trans rfl;have d2:w5.cell? ⟨g8,2,none⟩=some (.slice (some ⟨gV',0,none⟩) W.vals.length vc'):=(zF HG5.out 2).trans rfl;have f0:w5.frozen? ⟨g8,0,none⟩=false:=by simp[World.frozen?,HG5.out]
      have f1:w5.frozen? ⟨g8,1,none⟩=false:=by simp[World.frozen?,HG5.out]
      have f2:w5.frozen? ⟨g8,2,none⟩=false:=by simp[World.frozen?,HG5.out]
      have lYr:=yD HY.out;clear hV5 hI5 hb5 HCa z0 z1 z2;obtain⟨W1,W2,W3⟩:=W';simp only
      have zGU:Hid (zFC (((w5.setCell ⟨g8,0,none⟩ (.slice (some ⟨gR2,0,none⟩) W1.length rs.length)).setCell ⟨g8,1,none⟩ (.slice (some ⟨gK2,0,none⟩) W2.length N)).setCell ⟨g8,2,none⟩ (.slice (some ⟨gV2,0,none⟩) W3.length N)) w.heap.size g8 ⟨W1,W2,W3⟩/\fP wB.heap.size (((w5.setCell ⟨g8,0,none⟩ (.slice (some ⟨gR2,0,none⟩) W1.length rs.length)).setCell ⟨g8,1,none⟩ (.slice (some ⟨gK2,0,none⟩) W2.length N)).setCell ⟨g8,2,none⟩ (.slice (some ⟨gV2,0,none⟩) W3.length N)) (.slice aa rs.length ac) gs abv rs.length rs.length/\Below w.heap.size w (((w5.setCell ⟨g8,0,none⟩ (.slice (some ⟨gR2,0,none⟩) W1.length rs.length)).setCell ⟨g8,1,none⟩ (.slice (some ⟨gK2,0,none⟩) W2.length N)).setCell ⟨g8,2,none⟩ (.slice (some ⟨gV2,0,none⟩) W3.length N))/\(((w5.setCell ⟨g8,0,none⟩ (.slice (some ⟨gR2,0,none⟩) W1.length rs.length)).setCell ⟨g8,1,none⟩ (.slice (some ⟨gK2,0,none⟩) W2.length N)).setCell ⟨g8,2,none⟩ (.slice (some ⟨gV2,0,none⟩) W3.length N)).heap[w.heap.size]? = some (.cells #[.slice none 0 0,.slice none 0 0,.slice none 0 0] 170)):=by
       have q0:=heap_setCell_same w5 _ 0 _ _ (.slice (some ⟨gR2,0,none⟩) W1.length rs.length) HG5.out;have q1:=heap_setCell_same _ _ 1 _ _ (.slice (some ⟨gK2,0,none⟩) W2.length N) q0;have q2:=heap_setCell_same _ _ 2 _ _ (.slice (some ⟨gV2,0,none⟩) W3.length N) q1;have c1:gR2≠g8:=by omega
       have c2:gK2≠g8:=by omega
       have c3:gV2≠g8:=by omega
       refine⟨⟨gR2,rs.length,gK2,N,gV2,N,?_,⟨((HV5.out.rules.other (p:=⟨g8,0,none⟩) c1 _).other (p:=⟨g8,1,none⟩) c1 _).other (p:=⟨g8,2,none⟩) c1 _,((HV5.out.kinds.other (p:=⟨g8,0,none⟩) c2 _).other (p:=⟨g8,1,none⟩) c2 _).other (p:=⟨g8,2,none⟩) c2 _,((HV5.out.vals.other (p:=⟨g8,0,none⟩) c3 _).other (p:=⟨g8,1,none⟩) c3 _).other (p:=⟨g8,2,none⟩) c3 _⟩,⟨c1.symm,c2.symm,c3.symm⟩,by omega,by omega,by omega⟩,((HM5.out.set HG5.out h8B).set q0 h8B).set q1 h8B,((HB5.out.setCell (p:=⟨g8,0,none⟩) (show w.heap.size<=g8 by omega) _).setCell (p:=⟨g8,1,none⟩) (show w.heap.size<=g8 by omega) _).setCell (p:=⟨g8,2,none⟩) (show w.heap.size<=g8 by omega) _,?_⟩
       ·rw[q2];simp
       ·rw[Below.heap_setCell _ _ _ _ (show w.heap.size≠(Addr.mk g8 2 none).block from e8),Below.heap_setCell _ _ _ _ (show w.heap.size≠(Addr.mk g8 1 none).block from e8),Below.heap_setCell _ _ _ _ (show w.heap.size≠(Addr.mk g8 0 none).block from e8)];exact HY5.out
      go_wp2_with fail
      go_roundw
      case rel=>exact⟨n+1,k+1,⟨W1,W2,W3⟩,zA (by have:=HNk.out;omega),by omega,by go_num,HI5,zA zGU.out.1,zA zGU.out.2.1,zA zGU.out.2.2.1,zA zGU.out.2.2.2⟩
      case measure=>simp[intOf];omega
     ·obtain rfl:n=N:=by omega
      have nn:¬(n:Int)<(n:Int):=by omega
      have HIf:Hid (I (n-ins) W):=by unfold Hid;rw[show n-ins=k by have:=HNk.out;omega];exact HIk.out
      have hY:=HY.out;have x0:wr.cell? ⟨w.heap.size,0,none⟩=some (.slice none 0 0):=(zF hY 0).trans rfl;have x1:wr.cell? ⟨w.heap.size,1,none⟩=some (.slice none 0 0):=(zF hY 1).trans rfl;have x2:wr.cell? ⟨w.heap.size,2,none⟩=some (.slice none 0 0):=(zF hY 2).trans rfl;have q0:wr.frozen? ⟨w.heap.size,0,none⟩=false:=by simp[World.frozen?,hY]
      have q1:wr.frozen? ⟨w.heap.size,1,none⟩=false:=by simp[World.frozen?,hY]
      have q2:wr.frozen? ⟨w.heap.size,2,none⟩=false:=by simp[World.frozen?,hY]
      obtain⟨WR,WK,WV⟩:=W;simp only at z0 z1 z2
      have HFr:Hid ((((wr.setCell ⟨w.heap.size,0,none⟩ (.slice (some ⟨gR',0,none⟩) WR.length rc')).setCell ⟨w.heap.size,1,none⟩ (.slice (some ⟨gK',0,none⟩) WK.length kc')).setCell ⟨w.heap.size,2,none⟩ (.slice (some ⟨gV',0,none⟩) WV.length vc')).heap[w.heap.size]? = some (.cells #[.slice (some ⟨gR',0,none⟩) WR.length rc',.slice (some ⟨gK',0,none⟩) WK.length kc',.slice (some ⟨gV',0,none⟩) WV.length vc'] 170 (0,0))):=by
       have e0:=heap_setCell_same wr _ 0 _ _ (.slice (some ⟨gR',0,none⟩) WR.length rc') hY;have e1:=heap_setCell_same _ _ 1 _ _ (.slice (some ⟨gK',0,none⟩) WK.length kc') e0;have e2:=heap_setCell_same _ _ 2 _ _ (.slice (some ⟨gV',0,none⟩) WV.length vc') e1;unfold Hid;rw[e2];simp
      have HBf:Hid (Below w.heap.size w (((wr.setCell ⟨w.heap.size,0,none⟩ (.slice (some ⟨gR',0,none⟩) WR.length rc')).setCell ⟨w.heap.size,1,none⟩ (.slice (some ⟨gK',0,none⟩) WK.length kc')).setCell ⟨w.heap.size,2,none⟩ (.slice (some ⟨gV',0,none⟩) WV.length vc'))):=((HBx.out.setCell (p:=⟨w.heap.size,0,none⟩) (Nat.le_refl _) _).setCell (p:=⟨w.heap.size,1,none⟩) (Nat.le_refl _) _).setCell (p:=⟨w.heap.size,2,none⟩) (Nat.le_refl _) _;have HKp:Hid (∀ {g:Nat} {l:List Int},qQ wr (some ⟨g,0,none⟩) l->g≠w.heap.size->qQ (((wr.setCell ⟨w.heap.size,0,none⟩ (.slice (some ⟨gR',0,none⟩) WR.length rc')).setCell ⟨w.heap.size,1,none⟩ (.slice (some ⟨gK',0,none⟩) WK.length kc')).setCell ⟨w.heap.size,2,none⟩ (.slice (some ⟨gV',0,none⟩) WV.length vc')) (some ⟨g,0,none⟩) l):=fun h zG8=>((h.other (p:=⟨w.heap.size,0,none⟩) zG8 _).other (p:=⟨w.heap.size,1,none⟩) zG8 _).other (p:=⟨w.heap.size,2,none⟩) zG8 _;go_wp2_with fail
      refine bodyPost_ret (v:=.agg #[.slice (some ⟨gR',0,none⟩) WR.length rc',.slice (some ⟨gK',0,none⟩) WK.length kc',.slice (some ⟨gV',0,none⟩) WV.length vc']) (results_cell_row Tryz.results68 _ _ w.heap.size 170 #[.slice (some ⟨gR',0,none⟩) WR.length rc',.slice (some ⟨gK',0,none⟩) WK.length kc',.slice (some ⟨gV',0,none⟩) WV.length vc'] (0,0) _ rfl HFr.out Tryz.underlying170 rfl Vn) rfl ⟨_,_,_,_,_,_,⟨WR,WK,WV⟩,rfl,⟨HKp.out HVV.out.rules ?_,HKp.out HVV.out.kinds ?_,HKp.out HVV.out.vals ?_⟩,HIf.out,HBf.out⟩
      ·omega
      ·omega
      ·omega
theorem Dn(w:World)(b:Nat)(ls:List zH)(us:List zI)(rs:List RX)(ia:Option Addr)(ic:Nat)(inp:List Int)(hB:aJ w b us (zU ls++zJ ls) (zU ls).length rs)(hrs:rs.map Prod.fst=jE (zU ls++zJ ls) us)(hA:yX ls us)(hc:vT ls)(hs:Zk ls inp)(hil:inp.length=(zU ls).length)(hi:qQ w ia inp) :
 Calls Tryz.prog 68 #[.pointer (some ⟨b,0,none⟩),.slice ia inp.length ic] w fun e w'=>∃ra rc ka kc va vc W,e=.returned (.agg #[.slice ra W.rules.length rc,.slice ka W.kinds.length kc,.slice va W.vals.length vc])/\rE w' ra ka va W/\fQ (xE ls inp hc) (zU ls).length (zJ ls).length inp (zJ ls).length W/\Below w.heap.size w w':=by
 have hn:(zU ls++zJ ls).length=(zU ls).length+(zJ ls).length:=List.length_append;have hr:rs.length=(tO ls).length:=by rw[<-(Zu hA (zU ls++zJ ls)).1,<-hrs,List.length_map]
 have h8:=hc.heads;have hmem:∀x∈rs,x.1∈jE (zU ls++zJ ls) us:=fun x hx=>by rw[<-hrs];exact List.mem_map.2 ⟨x,hx,rfl⟩
 have h:=zEQ w b ls us (zU ls++zJ ls) (zU ls).length rs ia ic inp hB hA hi hil (by omega) (by rw[Z4 hA,X4,List.length_map,hr]) (fQ (xE ls inp hc) (zU ls).length (zJ ls).length inp)
  (by
   have:=Fh (xE ls inp hc) (zU ls).length (zJ ls).length inp hil;rw[hn,hr,Nat.add_sub_cancel_left];exact this)
  (fun k W hk hI=>by
   rw[hn]at hk ⊢;exact⟨hI.ok.lk,hI.ok.lv,fun x hx=>xt hA hc inp hil hs (k:=k) (by omega) hI.ok x.1 (hmem x hx)⟩)
  (fun k W W' hk hI hN=>by
   rw[hn,hrs]at hN;exact Fj hA hc inp hil hI hN)
 rw[hn,Nat.add_sub_cancel_left]at h;exact h
theorem zDX{ls:List zH}{us:List zI}(hA:yX ls us){u:zI}(hu:u∈us):∃x,LT x u:=by
 obtain⟨i,hi,rfl⟩:=List.getElem_of_mem hu;have:=hA.get i hi;unfold uA at this;rw[List.getD,List.getElem?_eq_getElem hi]at this;exact⟨_,this⟩
theorem zE9:(Tryz.prog.info? 124).map (fun i=>(i.zero,i.size,i.bytes))=some (some (.agg #[.string ⟨#[]⟩,.int .i64 0]),2,24):=by kernel_rfl
theorem zB8{w:World}{B:Nat}{v:Value}{L:List Int}(h:w.ownsRow B 3 1 v L.length (vR L))(hf:L.length<=10000):∃a c,v=.slice a L.length c/\qQ w a L:=by
 obtain⟨a,c,e,h1,_⟩:=Y6 h;exact⟨a,c,e,⟨h1,hf⟩⟩
theorem kp(l f:Bs)(w:World)(hl4:l.length<=4000)(hmaxf:f.length<=maxLen)(ls:List zH)(hA:yX ls (pM l))(hc:vT ls)(hg:∀x∈ls,gU x) :
 Calls Tryz.prog 32 #[.string ⟨l.toArray⟩,.string ⟨f.toArray⟩] w fun e w'=>∃va vc,e=.returned (.tuple #[.slice va (Uj ls f) vc,.int .i64 (yN (yJ ls) f).2])/\dC w' va (Uy (Uj ls f) (zF5 ls) (Yb ls f hc).vd)/\Below w.heap.size w w':=by
 obtain⟨i0,hi0,hz0,hz1,hz2⟩:=info_parts zE9;have HRd:=zA (zEU l w hl4 ls hA (fun u hu hk=>by obtain⟨x,hx⟩:=zDX hA hu;exact zFJ hx hk));rw[F5 hA,XD hA]at HRd;obtain⟨hcs,zGM⟩:=Gm hA hc f
 have hus:(pM l).length<=4000:=by
  have h1:=iH (zP l 0) 0 0;have h2:=uU l 0;unfold pM;rw[List.length_map];exact Nat.le_trans h1 (Nat.le_trans h2 hl4)
 have HFc:Hid (∀w' b rs,aJ w' b (pM l) (zU ls++zJ ls) (zU ls).length rs->Calls Tryz.prog 67 #[.pointer (some ⟨b,0,none⟩),.string ⟨f.toArray⟩] w' fun e w''=>∃v,e=.returned (.tuple #[v,.int .i64 (yN (yJ ls) f).2])/\w''.ownsRow w'.heap.size 3 1 v (yN (yJ ls) f).1.length (vR (yN (yJ ls) f).1)/\(yN (yJ ls) f).1.length<=(pM l).length/\Below w'.heap.size w' w''):=fun w' b rs hB=>by
  have hfw:(zU ls).length<=10000:=by
   obtain⟨na,nc,_,h9⟩:=hB.nam;have:=h9.few;rw[List.length_append]at this;omega
  have h:=zCJ w' b ls (pM l) _ _ rs f hB hA hmaxf hfw;rw[hcs]at h;exact h
 have hsm:=XQ hg f;have HWk:Hid ((yN (yJ ls) f).2=0->∀w' b rs ia ic,aJ w' b (pM l) (zU ls++zJ ls) (zU ls).length rs->rs.map Prod.fst=jE (zU ls++zJ ls) (pM l)->qQ w' ia (yN (yJ ls) f).1->Calls Tryz.prog 68 #[.pointer (some ⟨b,0,none⟩),.slice ia (yN (yJ ls) f).1.length ic] w' fun e w''=>∃ra rc ka kc va vc W,e=.returned (.agg #[.slice ra W.rules.length rc,.slice ka W.kinds.length kc,.slice va W.vals.length vc])/\rE w'' ra ka va W/\fQ (xE ls (yN (yJ ls) f).1 hc) (zU ls).length (zJ ls).length (yN (yJ ls) f).1 (zJ ls).length W/\Below w'.heap.size w' w''):=fun hk w' b rs ia ic hB hrs hi=>Dn w' b ls (pM l) rs ia ic _ hB hrs hA hc hsm (zGM hk) hi;have HEnd:Hid (∀W,fQ (xE ls (yN (yJ ls) f).1 hc) (zU ls).length (zJ ls).length (yN (yJ ls) f).1 (zJ ls).length W->W.rules.length=(tO ls).length/\W.kinds.length=(zU ls).length+(zJ ls).length/\W.vals.length=(zU ls).length+(zJ ls).length/\(∀r,r<(tO ls).length->W.rules.getD r 0=(Yb ls f hc).vd r)/\(∀c,c<(zJ ls).length->W.kinds.getD ((zU ls).length+c) 0=(Yb ls f hc).st c/\W.vals.getD ((zU ls).length+c) 0=(Yb ls f hc).av c)):=fun W hW=>⟨hW.lr,hW.ok.lk,hW.ok.lv,xq hA hc _ hW⟩
 have HRl:Hid (∀rs:List RX,rs.map Prod.fst=jE (zU ls++zJ ls) (pM l)->rs.length=(tO ls).length/\∀r,r<(tO ls).length->(rs.getD r dE).1.label=zF5 ls r):=fun rs hrs=>by
  have hr:rs.length=(tO ls).length:=by rw[<-(Zu hA (zU ls++zJ ls)).1,<-hrs,List.length_map]
  refine⟨hr,fun r hr2=>?_⟩;rw[<-DA hA (zU ls++zJ ls) hr2,<-hrs,sQ Prod.fst rs r dE Un (by omega)]
 have HNv:Hid (((yN (yJ ls) f).2=0->Uj ls f=(tO ls).length)/\((yN (yJ ls) f).2≠0->Uj ls f=0)):=⟨fun h=>by unfold Uj;rw[if_pos h],fun h=>by unfold Uj;rw[if_neg h]⟩;have HLk:Hid (∀W:pJ,fQ (xE ls (yN (yJ ls) f).1 hc) (zU ls).length (zJ ls).length (yN (yJ ls) f).1 (zJ ls).length W->fQ (xE ls (yN (yJ ls) f).1 hc) (zU ls).length (zJ ls).length (yN (yJ ls) f).1 (zJ ls).length W):=fun _ h=>h;have h8:=hc.heads;have h8r:=hc.rules;rw[<-Zw]at h8r;generalize Yb ls f hc=hd at *;generalize (fQ (xE ls (yN (yJ ls) f).1 hc) (zU ls).length (zJ ls).length (yN (yJ ls) f).1 (zJ ls).length)=LK at *;generalize yN (yJ ls) f=ca at *;obtain⟨inp,k⟩:=ca;simp only at HFc HWk HNv ⊢;generalize jE (zU ls++zJ ls) (pM l)=RU at *;generalize zF5 ls=lb at *;clear hA hcs zGM hl4 hmaxf hg hsm HLk;generalize hH:zJ ls=H at *;clear hH;generalize hI:zU ls=ins at *;clear hI;generalize hRn:(tO ls).length=R at *;clear hRn;generalize hNn:Uj ls f=nv at *;clear hNn;generalize pM l=us at *
 go_enter Tryz.func32,Tryz.ntmps32
 go_wp2_with fail
 refine HRd.out.mono ?_;rintro e w1 ⟨b,rs,rfl,hB,hrs,hb1⟩;have HBk:=zA hB;have HRs:=zA hrs;have HB1:=zA hb1;clear hB hrs hb1 HRd;go_wp2_with fail
 refine(HFc.out w1 b rs HBk.out).mono ?_;rintro e w2 ⟨v2,rfl,zG3,hle2,hb2⟩;obtain⟨ia,ic,rfl,zGB⟩:=zB8 zG3 (by omega);have HIn:=zA zGB;have HBk2:=zA (HBk.out.below hb2);have HB2:Hid (Below w.heap.size w w2):=HB1.out.trans (hb2.mono HB1.out.size);clear zG3 hb2 zGB HBk HB1 HFc;by_cases hk:k=0
 ·subst hk
  have zEZ:=zA (HNv.out.1 rfl);have HWk2:=zA (HWk.out rfl w2 b rs ia ic HBk2.out HRs.out HIn.out);clear HNv HWk;go_wp2_with fail
  refine HWk2.out.mono ?_;rintro e w3 ⟨ra,rc,ka,kc,va,vc,W,rfl,hV,hLK,hb3⟩;have HBk3:=zA (HBk2.out.below hb3);have HV:=zA hV;have HB3:Hid (Below w.heap.size w w3):=HB2.out.trans (hb3.mono HB2.out.size);obtain⟨e1,e2,e3,e4,e5⟩:=HEnd.out W hLK;obtain⟨hRR,hlb⟩:=HRl.out rs HRs.out;have E4:=zA e4;have E5:=zA e5;have HLb:=zA hlb;clear hV hLK hb3 HBk2 HB2 HWk2 HEnd HRl e4 e5 hlb HIn;obtain⟨WR,WK,WV⟩:=W;simp only at e1 e2 e3 E4 E5 HV ⊢;rw[e1,e2,e3];have i3:=HBk3.out.ins;have lb3:=xG i3;have mb3:w3.heap.size≠b:=by omega
  go_wp2_with fail
  clear i3 lb3 mb3;have HGw:Hid ((w3.alloc (.cells #[.slice ra R rc,.slice ka (ins.length+H.length) kc,.slice va (ins.length+H.length) vc] 170)).heap[w3.heap.size]? = some (.cells #[.slice ra R rc,.slice ka (ins.length+H.length) kc,.slice va (ins.length+H.length) vc] 170)):=zS _ _;have HBa:Hid (Below w3.heap.size w3 (w3.alloc (.cells #[.slice ra R rc,.slice ka (ins.length+H.length) kc,.slice va (ins.length+H.length) vc] 170))):=(Below.refl _ _).alloc (Nat.le_refl _) _;have hsa:w3.heap.size<(w3.alloc (.cells #[.slice ra R rc,.slice ka (ins.length+H.length) kc,.slice va (ins.length+H.length) vc] 170)).heap.size:=zD _ _;generalize w3.alloc (.cells #[.slice ra R rc,.slice ka (ins.length+H.length) kc,.slice va (ins.length+H.length) vc] 170)=w4 at *;have HBk4:=zA (HBk3.out.below HBa.out);have HV4:=zA (HV.out.below HBa.out);have HB4:Hid (Below w.heap.size w w4):=HB3.out.trans (HBa.out.mono HB3.out.size);clear HBk3 HV HB3 HBa
  go_loopw [10,11] (fun ov iv wr=>∃(i:Nat),i<=R/\iv=.int .i64 i/\Hid (wr.ownsRow w4.heap.size 124 2 ov i (Uy i lb hd.vd))/\Hid (Below w4.heap.size w4 wr)) (fun _ iv _=>R-(intOf iv).toNat)
  case atStart=>exact⟨0,Nat.zero_le _,rfl,zA ⟨rfl,.inl ⟨rfl,rfl⟩⟩,zA (Below.refl _ _)⟩
  case round =>
   obtain⟨i,hi,rfl,HO,HB⟩:=hrel;have zGL:w4.heap.size<=wr.heap.size:=HB.out.size;have hBr:=HBk4.out.below HB.out;have hVr:=HV4.out.below HB.out;obtain⟨ra4,rc4,hr3,hrc⟩:=hBr.rul;have hgw:wr.heap[w3.heap.size]? = some (.cells #[.slice ra R rc,.slice ka (ins.length+H.length) kc,.slice va (ins.length+H.length) vc] 170):=by rw[HB.out.block _ hsa];exact HGw.out
   have z0:wr.cell? ⟨w3.heap.size,0,none⟩=some (.slice ra R rc):=(zF hgw 0).trans rfl;rw[hRR]at hr3;by_cases zFZ:i<R
   ·have ii:(i:Int)<(R:Int):=by omega
    obtain⟨gr,rfl,q0⟩:=hrc.at ((yO jh 4 (fun _=>rfl) dE rs i 0 (by omega) (by decide)).trans rfl);rw[Nat.add_zero]at q0;rw[HLb.out i zFZ]at q0;obtain⟨gv,hgv,cv⟩:=hVr.rules.at (show i<WR.length by omega);rw[E4.out i zFZ]at cv
    try simp only at hgv
    subst hgv;obtain⟨oa,oc,rfl⟩:=vN HO.out;have HVs:=zA (GI i lb hd.vd);clear hBr hVr hrc hgw;generalize lb i=s at *;generalize hd.vd i=sv at *;go_wp2_with fail
    go_region_law ((refine step_append_lies _ (by rfl) _ _ _ (by rfl) w4.heap.size 124 i0 _ 2 24 Tryz.underlying30 hi0 hz0 hz1 hz2 rfl (by decide) (.slice oa i oc) i (Uy i lb hd.vd) (by rfl) (HO.out.drew.alloc _) ⟨wr.heap.size,0,none⟩ 1 1 [.string ⟨s.toArray⟩,.int .i64 sv] (by rfl) (by rfl) (xI _ _ _ _ rfl) (by simp[Value.oneCell']) (by decide) (by unfold maxLen;omega) (by omega) (by simp;omega) (wr.heap.size+1) (by simp) ?_;intro gg cap w5 zG2 zG0 hat hlt5))
    all_goals
     have HB5:Hid (Below w4.heap.size w4 w5):=(HB.out.drew.alloc zGL _).grown zG0 (by show w4.heap.size<=(wr.drew.alloc _).heap.size;simp;omega) (zZ HO.out);have HO5:Hid (w5.ownsRow w4.heap.size 124 2 (.slice (some ⟨gg,0,none⟩) (i+1) cap) (i+1) (Uy (i+1) lb hd.vd)):=by unfold Hid;rw[HVs.out];exact zG2
     clear zG0 zG2 hat hlt5;go_wp2_with fail
     go_roundw
     case rel=>exact⟨i+1,by omega,by go_num,HO5,HB5⟩
     case measure=>simp[intOf];omega
   ·obtain rfl:i=R:=by omega
    have ii:¬(i:Int)<(i:Int):=by omega
    obtain⟨oa,oc,rfl,hcel,_⟩:=Y6 HO.out;have HCe:=zA hcel;have HBf:Hid (Below w.heap.size w wr):=HB4.out.trans (HB.out.mono HB4.out.size);clear hBr hVr hrc hgw hcel;go_wp2_with fail
    go_ret2
    exact⟨oa,⟨oc,by rw[zEZ.out];rfl⟩,by rw[zEZ.out];exact HCe.out,HBf.out⟩
 ·have b0:(k != 0)=true:=by simpa using hk
  have zEZ:=zA (HNv.out.2 hk);clear HNv HWk hk;go_wp2_with fail
  go_ret2
  exact⟨none,0,by rw[zEZ.out];rfl,.inl (by rw[zEZ.out];rfl),HB2.out⟩
theorem Fo(l:Bs)(w:World)(hL:Calls Tryz.prog 26 #[.string ⟨l.toArray⟩,.bool false] w fun e w'=>Jo l w w' e)(hR:∀w',Below w.heap.size w w'->Calls Tryz.prog 27 #[.string ⟨l.toArray⟩,.bool false] w' fun e w''=>e=.returned (.int .i64 (bB l).1)/\Below w'.heap.size w' w'') :
 Calls Tryz.prog 10 #[.string ⟨l.toArray⟩,.bool false] w fun e w'=>∃pv,e=.returned (.tuple #[pv,.bool true])/\Below w.heap.size w w'/\((bB l).1≠0->pv=.pointer none)/\((bB l).1=0->∃b rs,pv=.pointer (some ⟨b,0,none⟩)/\lE w' b (xS l).1 rs):=by
 have HL:=zA hL;have HR:=zA hR;clear hL hR;by_cases hk:(bB l).1=0
 ·have HL2:Hid (∀e w',Jo l w w' e->∃b rs,e=.returned (.tuple #[.pointer (some ⟨b,0,none⟩),.int .i64 0])/\Below w.heap.size w w'/\lE w' b (xS l).1 rs):=fun e w' ⟨pv,h1,h2,_,h4⟩=>by
   obtain⟨b,rs,rfl,h5⟩:=h4 hk;rw[hk]at h1;exact⟨b,rs,h1,h2,h5⟩
  rw[hk]at HR;have HK:=zA hk;clear hk
  go_enter Tryz.func10,Tryz.ntmps10
  go_wp2_with fail
  refine HL.out.mono ?_;rintro e w1 hli;obtain⟨b,rs,rfl,hb1,hbv⟩:=HL2.out _ _ hli;have HB1:=zA hb1;have HBv:=zA hbv;clear hli hb1 hbv;go_wp2_with fail
  refine(HR.out w1 HB1.out).mono ?_;rintro e w2 ⟨rfl,hb2⟩;have HB2:Hid (Below w.heap.size w w2):=HB1.out.trans (hb2.mono HB1.out.size);have HBv2:=zA (HBv.out.below hb2);clear hb2;go_wp2_with fail
  refine(yp 0 w2).mono ?_;rintro e w3 ⟨rfl,hw⟩;obtain rfl:=hw.symm;go_wp2_with fail
  go_ret2
  exact⟨_,rfl,HB2.out,fun h=>absurd HK.out h,fun _=>⟨b,rs,rfl,HBv2.out⟩⟩
 ·have HL2:Hid (∀e w',Jo l w w' e->e=.returned (.tuple #[.pointer none,.int .i64 (bB l).1])/\Below w.heap.size w w'):=fun e w' ⟨pv,h1,h2,h3,_⟩=>by
   rw[h3 hk]at h1;exact⟨h1,h2⟩
  have HK:=zA hk;generalize hkk:(bB l).1=k at *;have b0:(k != 0)=true:=by simpa using hk
  clear hk hkk
  go_enter Tryz.func10,Tryz.ntmps10
  go_wp2_with fail
  refine HL.out.mono ?_;rintro e w1 hli;obtain⟨rfl,hb1⟩:=HL2.out _ _ hli;have HB1:=zA hb1;clear hli hb1;go_wp2_with fail
  refine(HR.out w1 HB1.out).mono ?_;rintro e w2 ⟨rfl,hb2⟩;have HB2:Hid (Below w.heap.size w w2):=HB1.out.trans (hb2.mono HB1.out.size);clear hb2;go_wp2_with fail
  refine(yp k w2).mono ?_;rintro e w3 ⟨rfl,hw⟩;obtain rfl:=hw.symm;go_wp2_with fail
  go_ret2
  exact⟨_,rfl,HB2.out,fun _=>rfl,fun h=>absurd h HK.out⟩
structure zFY(l:Bs):Prop where
 few:l.length<=4000
 lines:yX (xS l).1 (pM l)
 calm:vT (xS l).1
 good:∀x∈(xS l).1,gU x
theorem zEL{l:Bs}(hk:(bB l).1=0):zFY l:=by
 have hp:l.length<=4000->VZ 4001 l/\Ua l:=fun h=>Zy h (by decide)
 have hl4:l.length<=4000:=by
  rcases Nat.lt_or_ge 4000 l.length with h|h
  ·unfold bB at hk;rw[if_pos h]at hk;exact absurd (show (1:Int)=0 from hk) (by decide)
  ·exact h
 have hrd:(xS l).2.2=false:=by
  cases hr:(xS l).2.2 with
  | false=>rfl
  | true=>unfold bB at hk;rw[if_neg (by omega),hr]at hk;exact absurd (show (2:Int)=0 from hk) (by decide)
 have hck:(qP (xS l).1).1=0:=by unfold bB at hk;rw[if_neg (by omega),hrd]at hk;exact hk
 exact⟨hl4,(hp hl4).2.lines hrd,zFS hck,(hp hl4).1.good hrd⟩
theorem zs(l:Bs)(w:World)(zGO:l.length<=maxLen)(hf:kT w):∀w',Below w.heap.size w w'->Calls Tryz.prog 27 #[.string ⟨l.toArray⟩,.bool false] w' fun e w''=>e=.returned (.int .i64 (bB l).1)/\Below w'.heap.size w' w'':=fun w' hb=>by
 have hp:l.length<=4000->VZ 4001 l/\Ua l:=fun h=>Zy h (by decide)
 have hlines:l.length<=4000->tM l<0->(xS l).2.2=false:=fun h1 h2=>by
  cases hr:(xS l).2.2 with
  | false=>rfl
  | true=>have:=(hp h1).1.fails hr;omega
 have h1:=Kd l w' zGO (hf.below hb) (fun h1 h2=>⟨_,(hp h1).2.lines (hlines h1 h2)⟩);rw[qj hp]at h1;exact zCD l w' _ _ h1
theorem VL(w:World)(b:Nat)(F:List zH)(rs:List MX)(f:Bs)(zGO:f.length<=maxLen)(hB:lE w b F rs)(hc:vT F)(hg:∀x∈F,gU x) :
 Calls Tryz.prog 31 #[.pointer (some ⟨b,0,none⟩),.string ⟨f.toArray⟩] w fun e w'=>∃va vc,e=.returned (.tuple #[.slice va (Uj F f) vc,.int .i64 (yN (yJ F) f).2])/\dC w' va (Uy (Uj F f) (zF5 F) (Yb F f hc).vd)/\Below w.heap.size w w':=by
 refine(Cf w b F rs f zGO hB hc (fun _=>XQ hg f)).mono ?_;rintro e w' ⟨va,vn,vc,na,nn,nc,rfl,h1,h2,h3⟩;by_cases hk:(yN (yJ F) f).2=0
 ·obtain⟨⟨a,c,e,hv⟩,-⟩:=h2 hk
  have hA:=hB.modA hc;have hn:Uj F f=rs.length:=by unfold Uj;rw[if_pos hk,hA.len]
  refine⟨a,c,by rw[hn,e],?_,h3⟩;have hv2:=hv.cel
  have ev:zD8 rs (uH (xE F (yN (yJ F) f).1 hc) (vW F).length (vW F).length 0 h0)=Uy (Uj F f) (zF5 F) (Yb F f hc).vd:=by
   rw[hn];refine(Dr (n:=rs.length) (f:=fun r=>(tK rs r).1.label) (g:=(uH (xE F (yN (yJ F) f).1 hc) (vW F).length (vW F).length 0 h0).vd) fun i hi=>⟨?_,?_⟩)
   ·rw[hA.at hi];rfl
   ·unfold Yb;rw[wX hc]
  rw[ev]at hv2;exact hv2
 ·obtain⟨rfl,rfl⟩:=h1 hk
  have hn:Uj F f=0:=by unfold Uj;rw[if_neg hk]
  exact⟨none,vc,by rw[hn],.inl (by rw[hn];rfl),h3⟩
theorem zAQ{F:List zH}(hc:vT F)(f:Bs):Uj F f<=10000:=by
 have:=hc.rules;rw[<-Zw]at this;unfold Uj;split <;> omega
theorem Dq(l f:Bs)(w:World)(b:Nat)(k:Int)(n:Nat)(hn:n<=10000)(F:Nat->Bs)(g:Nat->Int)(L:List Value)(hE:L=Uy n F g)(hP:Calls Tryz.prog 31 #[.pointer (some ⟨b,0,none⟩),.string ⟨f.toArray⟩] w fun e w'=>∃va vc,e=.returned (.tuple #[.slice va n vc,.int .i64 k])/\dC w' va L/\Below w.heap.size w w')(hR:∀w',Calls Tryz.prog 32 #[.string ⟨l.toArray⟩,.string ⟨f.toArray⟩] w' fun e w''=>∃va vc,e=.returned (.tuple #[.slice va n vc,.int .i64 k])/\dC w'' va L/\Below w'.heap.size w' w'') :
 Calls Tryz.prog 12 #[.pointer (some ⟨b,0,none⟩),.string ⟨l.toArray⟩,.string ⟨f.toArray⟩] w fun e w'=>∃v,e=.returned (.tuple #[v,.bool true])/\Below w.heap.size w w':=by
 have HP:=zA hP;have HR:=zA hR;have HE:=zA hE;clear hP hR hE
 go_enter Tryz.func12,Tryz.ntmps12
 go_wp2_with fail
 refine HP.out.mono ?_;rintro e w1 ⟨a1,c1,rfl,hv1,hb1⟩;have HV1:=zA hv1;have HB1:=zA hb1;clear hv1 hb1;go_wp2_with fail
 refine(HR.out w1).mono ?_;rintro e w2 ⟨a2,c2,rfl,hv2,hb2⟩;have HSm:=zA (YV w2 a1 a2 c1 c2 n hn F g (by rw[<-HE.out];exact HV1.out.below hb2) (by rw[<-HE.out];exact hv2));have HB2:Hid (Below w.heap.size w w2):=HB1.out.trans (hb2.mono HB1.out.size);clear hv2 hb2;go_wp2_with fail
 refine(yp k w2).mono ?_;rintro e w3 ⟨rfl,hw⟩;obtain rfl:=hw.symm;go_wp2_with fail
 refine HSm.out.mono ?_;rintro e w4 ⟨rfl,hb4⟩;have HB4:Hid (Below w.heap.size w w4):=HB2.out.trans (hb4.mono HB2.out.size);clear hb4;go_wp2_with fail
 go_ret2
 exact⟨_,rfl,HB4.out⟩
theorem G1(l f:Bs)(w:World)(zGO:l.length<=maxLen)(hmaxf:f.length<=maxLen)(hf:kT w)(hL:Calls Tryz.prog 26 #[.string ⟨l.toArray⟩,.bool false] w fun e w'=>Jo l w w' e) :
 Calls Tryz.prog 5 #[.string ⟨l.toArray⟩,.string ⟨f.toArray⟩] w fun e w'=>e=.returned (.bool true)/\Below w.heap.size w w':=by
 have HLd:=zA (Fo l w hL (zs l w zGO hf));by_cases hk:(bB l).1=0
 ·have hT:=zEL hk
  have HLv:Hid (∀w' b rs,lE w' b (xS l).1 rs->Calls Tryz.prog 12 #[.pointer (some ⟨b,0,none⟩),.string ⟨l.toArray⟩,.string ⟨f.toArray⟩] w' fun e w''=>∃v,e=.returned (.tuple #[v,.bool true])/\Below w'.heap.size w' w''):=fun w' b rs hB =>
   Dq l f w' b _ _ (zAQ hT.calm f) _ _ _ rfl (VL w' b _ rs f hmaxf hB hT.calm hT.good) (fun w''=>kp l f w'' hT.few hmaxf _ hT.lines hT.calm hT.good)
  have HK:=zA hk;clear zGO hmaxf hf hL hk hT
  go_enter Tryz.func5,Tryz.ntmps5
  go_wp2_with fail
  refine HLd.out.mono ?_;rintro e w1 ⟨pv,rfl,hb1,-,hbv⟩;obtain⟨b,rs,rfl,hbw⟩:=hbv HK.out;have HB1:=zA hb1;have HBv:=zA hbw;clear hb1 hbv hbw;go_wp2_with fail
  refine(HLv.out w1 b rs HBv.out).mono ?_;rintro e w2 ⟨v,rfl,hb2⟩;have HB2:Hid (Below w.heap.size w w2):=HB1.out.trans (hb2.mono HB1.out.size);clear hb2;go_wp2_with fail
  go_ret
  exact⟨rfl,HB2.out⟩
 ·have HK:=zA hk
  clear zGO hmaxf hf hL hk
  go_enter Tryz.func5,Tryz.ntmps5
  go_wp2_with fail
  refine HLd.out.mono ?_;rintro e w1 ⟨pv,rfl,hb1,hn,-⟩;obtain rfl:=hn HK.out;have HB1:=zA hb1;clear hb1 hn;go_wp2_with fail
  go_ret
  exact⟨rfl,HB1.out⟩
end Go.Proofs.YtnbpdffdnphbeaaGreatDoor
