import Derived.Laws.CopyOwn
import Derived.Test.YtnbpdffdnphbeaaGreatDoorPMod
set_option maxHeartbeats 4000000
set_option maxRecDepth 100000
namespace Go.Proofs.YtnbpdffdnphbeaaGreatDoor
open Go.RowKit
structure dN(w:World)(B g8 gR gK gV m n:Nat)(R K V:List Int):Prop where
 vw:w.heap[g8]? = some (.cells #[.slice (some ⟨gR,0,none⟩) m m,.slice (some ⟨gK,0,none⟩) n n,.slice (some ⟨gV,0,none⟩) n n] 170 (0,0))
 r:kF w gR R
 k:kF w gK K
 v:kF w gV V
 lr:R.length=m
 lk:K.length=n
 lv:V.length=n
 lo:B<=g8/\B<=gR/\B<=gK/\B<=gV
 apart:gR≠gK/\gR≠gV/\gK≠gV/\g8≠gR/\g8≠gK/\g8≠gV
theorem YQ{P:Program}{ops:Array Oper}{o:Oper}{a:Act}{w:World}{K:Act->World->Prop}{Q:Exit->Act->World->Prop}{E:Prop}(zGB:o.guard=none)(d s:Operand)(dT sT:TypeId)
 (ho:o.op=.call { callee:=.builtin .copy,args := #[d,s],argTypes := #[dT,sT] }) (elem:TypeId) (hu:P.underlying dT=some (.slice elem)) (zG8:(P.info? elem).map (·.size)=some 1)
 (dp sp:Option Addr) (dLen dCap sLen sCap:Nat) (hd:a.eval d=.slice dp dLen dCap) (hs:a.eval s=.slice sp sLen sCap)
 (g off:Nat) (yO:List Value) (t:TypeId) (hg:w.heap[g]? = some (.cells yO.toArray t (0,0))) (cs:List Value) (hn:cs.length=Nat.min sLen dLen)
 (hpos:0<cs.length->dp=some ⟨g,off,none⟩/\∃ad,sp=some ad/\∀j v,cs[j]? = some v->w.cell? (ad.add j)=some v)
 (hfit:off+cs.length<=yO.length) (h1:∀v∈cs,v.oneCell'=true)
 (h:∀w',w'.heap[g]? = some (.cells (splice yO off cs).toArray t (0,0))->xL g w w'->K (a.put o.dst (goInt cs.length)) w') :
 if Region.wanted o (yielded ops a.tmps)=true then Oper.wp P o a w K Q else E:=by
 have hw:Region.wanted o (yielded ops a.tmps)=true:=by simp[Region.wanted,zGB]
 rw[if_pos hw];by_cases h0:cs.length=0
 ·obtain rfl:cs=[]:=List.eq_nil_of_length_eq_zero h0
  have hrun:=run_copy_none (P:=P) w dT sT o.type elem dp sp dLen dCap sLen sCap hu zG8 (by simpa using hn.symm);unfold Oper.wp;simp[execOp,ho,resolve,invoke,builtin,hd,hs,hrun,Result.andThen];exact h w (show _=_ by simpa[splice] using hg) (xL.refl _ _)
 ·obtain⟨rfl,ad,rfl,hsrc⟩:=hpos (by omega)
  have hrun:=run_copy_row (P:=P) w dT sT o.type elem g off dLen dCap ad sLen sCap yO.toArray t cs hu zG8 hg hn hsrc (by simpa using hfit) h1;unfold Oper.wp;simp[execOp,ho,resolve,invoke,builtin,hd,hs,hrun,Result.andThen];exact h _ (show _=_ by simpa[splice] using setRow_heap w g _ _ t _ hg) ⟨rfl,rfl,rfl,by simp[World.setRow],fun k _ zG7=>setRow_other w g k _ zG7⟩
theorem kF.only{w w':World}{g k:Nat}{l:List Int}(h:kF w g l)(ho:xL k w w')(zG7:g≠k):kF w' g l:=by
 have hl:=h.lt;unfold kF at h ⊢;rw[ho.block g hl zG7];exact h
theorem dN.below{w w':World}{B g8 gR gK gV m n:Nat}{R K V:List Int}(h:dN w B g8 gR gK gV m n R K V)(hb:Below w.heap.size w w'):dN w' B g8 gR gK gV m n R K V :=
 ⟨by rw[hb.block g8 (yD h.vw)];exact h.vw,h.r.below hb,h.k.below hb,h.v.below hb,h.lr,h.lk,h.lv,h.lo,h.apart⟩
theorem dN.setR{w:World}{B g8 gR gK gV m n:Nat}{R K V:List Int}(h:dN w B g8 gR gK gV m n R K V)(i:Nat)(x:Int):dN (w.setCell ⟨gR,i,none⟩ (.int .i64 x)) B g8 gR gK gV m n (R.set i x) K V:=by
 obtain⟨a1,a2,a3,a4,a5,a6⟩:=h.apart;exact⟨by rw[Below.heap_setCell _ _ _ _ a4];exact h.vw,h.r.set i x,h.k.other (p:=⟨gR,i,none⟩) (fun e=>a1 e.symm) _,h.v.other (p:=⟨gR,i,none⟩) (fun e=>a2 e.symm) _,by simp[h.lr],h.lk,h.lv,h.lo,h.apart⟩
theorem dN.setK{w:World}{B g8 gR gK gV m n:Nat}{R K V:List Int}(h:dN w B g8 gR gK gV m n R K V)(i:Nat)(x:Int):dN (w.setCell ⟨gK,i,none⟩ (.int .i64 x)) B g8 gR gK gV m n R (K.set i x) V:=by
 obtain⟨a1,a2,a3,a4,a5,a6⟩:=h.apart;exact⟨by rw[Below.heap_setCell _ _ _ _ a5];exact h.vw,h.r.other (p:=⟨gK,i,none⟩) a1 _,h.k.set i x,h.v.other (p:=⟨gK,i,none⟩) (fun e=>a3 e.symm) _,h.lr,by simp[h.lk],h.lv,h.lo,h.apart⟩
theorem dN.setV{w:World}{B g8 gR gK gV m n:Nat}{R K V:List Int}(h:dN w B g8 gR gK gV m n R K V)(i:Nat)(x:Int):dN (w.setCell ⟨gV,i,none⟩ (.int .i64 x)) B g8 gR gK gV m n R K (V.set i x):=by
 obtain⟨a1,a2,a3,a4,a5,a6⟩:=h.apart;exact⟨by rw[Below.heap_setCell _ _ _ _ a6];exact h.vw,h.r.other (p:=⟨gV,i,none⟩) a2 _,h.k.other (p:=⟨gV,i,none⟩) a3 _,h.v.set i x,h.lr,h.lk,by simp[h.lv],h.lo,h.apart⟩
theorem xV.other{w:World}{g:Nat}{l:List Bool}(h:xV w g l){p:Addr}(hp:g≠p.block)(u:Value):xV (w.setCell p u) g l:=by
 unfold xV at h ⊢;rw[Below.heap_setCell _ _ _ _ hp];exact h
def dG:RX:=(Um,.bool false,.bool false)
theorem Vm:(Tryz.prog.info? 170).map (·.size)=some 3:=by kernel_rfl
theorem km{ins N:Nat}{rs:List RX}{abv:Nat->Nat->Bool}{WR WK WV R K V bits:List Int}{L:List Bool}(hb:mZ ins N ⟨WR,WK,WV⟩=bits)(hL:∀j,j<rs.length->L.getD j false=ZH ins bits (rs.getD j dG).1)(lr:R.length=rs.length)(lk:K.length=N)(lv:V.length=N)
 (hR:∀j,j<rs.length->R.getD j 0=rW rs.length abv (fun j=>L.getD j false) j) (hK:∀h,h<N->K.getD h 0=kM (bG rs.length abv (fun j=>L.getD j false) (fun j=>(rs.getD j dG).1.head) h rs.length))
 (hV:kr rs.length N ins abv (fun j=>L.getD j false) (fun j=>(rs.getD j dG).1.head) (fun j=>eA WV (rs.getD j dG).1.parts) WV N V):aZ ins N (rs.map Prod.fst) abv ⟨WR,WK,WV⟩ ⟨R,K,V⟩:=by
 have e:∀j,j<rs.length->(rs.map Prod.fst).getD j Um=(rs.getD j dG).1:=fun j hj=>sS Prod.fst rs j dG Um hj;have hon:∀k,k<rs.length->L.getD k false=zAD ins N (rs.map Prod.fst) ⟨WR,WK,WV⟩ k:=fun k hk=>by unfold zAD;rw[hL k hk,hb,e k hk]
 have hhd:∀k,k<rs.length->(rs.getD k dG).1.head=((rs.map Prod.fst).getD k Um).head:=fun k hk=>by rw[e k hk]
 refine⟨by rw[List.length_map];exact lr,lk,lv,fun j hj=>?_,fun h hh=>?_,fun h hh=>?_⟩
 ·rw[List.length_map]at hj ⊢
  show R.getD j 0=_;rw[hR j hj];exact Kq hon hj
 ·rw[List.length_map]
  show K.getD h 0=_;rw[hK h hh,YS hon hhd]
 ·rw[List.length_map]
  show V.getD h 0=if h<ins then WV.getD h 0 else _;rw[hV.v h hh];by_cases k:h<ins
  ·rw[if_pos k,if_pos k]
  ·rw[if_neg k,if_neg k,if_pos hh,YS hon hhd]
   exact oF fun r hr=>by
    show eA WV (rs.getD r dG).1.parts=eA WV ((rs.map Prod.fst).getD r Um).parts;rw[e r (zDK hr)]
theorem gM(w:World)(o:Obj)(H:Nat)(hH:w.heap.size=H):(w.alloc o).heap[H]? = some o:=by subst hH;exact zS _ _
theorem zC9(w:World)(b:Nat)(us:List zJ)(names:List Bs)(ins:Nat)(rs:List RX)(ra ka va:Option Addr)(rc kc vc:Nat)(W:pJ)(hB:aL w b us names ins rs)(zGA:ins<=names.length)(hW:rI w ra ka va W)(hk:W.kinds.length=names.length)(hv:W.vals.length=names.length)(aa:Option Addr)(ac:Nat)(B0:Nat)(gs:List Nat)(abv:Nat->Nat->Bool)(hM:fP B0 w (.slice aa rs.length ac) gs abv rs.length rs.length)(hap:∀x∈rs,VO ins (mZ ins names.length W) x.1)(hsu:∀x∈rs,U0 W.vals x.1.parts)(hhd:∀x∈rs,(ins:Int)<=x.1.head/\x.1.head<names.length) :
 Calls Tryz.prog 116 #[.pointer (some ⟨b,0,none⟩),.agg #[.slice ra W.rules.length rc,.slice ka W.kinds.length kc,.slice va W.vals.length vc],.slice aa rs.length ac] w fun e w'=>∃gR gK gV W',e=.returned (.agg #[.slice (some ⟨gR,0,none⟩) W'.rules.length rs.length,.slice (some ⟨gK,0,none⟩) W'.kinds.length names.length,.slice (some ⟨gV,0,none⟩) W'.vals.length names.length])/\rI w' (some ⟨gR,0,none⟩) (some ⟨gK,0,none⟩) (some ⟨gV,0,none⟩) W'/\aZ ins names.length (rs.map Prod.fst) abv W W'/\(w.heap.size<=gR/\w.heap.size<=gK/\w.heap.size<=gV)/\Below w.heap.size w w':=by
 obtain⟨na,nc,hn1,hns⟩:=hB.nam;have hi:=hB.ins;obtain⟨ra4,rc4,hr3,hrc⟩:=hB.rul;have hfn:=hns.few;have hfr:=hB.few;have hbl:=yT hi;have HNm:=zA hB.nam;have HW:=zA hW;have HAp:=zA hap;have HSu:=zA hsu;have HHd:=zA hhd;have HMt:=zA hM;have HRc:=zA hrc;have HRows:=zA hB.rows;have hmkB:=run_make_row' (P:=Tryz.prog) 180 4 (.bool false) 1 Tryz.underlying180 mA rfl .i64 .i64 rs.length (by omega) (by omega);rw[tV]at hmkB;have HBi:=zA (fun w' (hb:Below w.heap.size w w')=>zEL w' b names ins ra ka va rc kc vc W (HNm.out.below hb) (by rw[hb.cell (p:=⟨b,2,none⟩) hbl];exact hi) (hW.below hb) hk hv);have hmkN:=run_make_row' (P:=Tryz.prog) 59 3 (.int .i64 0) 8 Tryz.underlying59 mX rfl .i64 .i64 names.length (by omega) (by omega);have hmkM:=run_make_row' (P:=Tryz.prog) 59 3 (.int .i64 0) 8 Tryz.underlying59 mX rfl .i64 .i64 rs.length (by omega) (by omega);rw[dR]at hmkN hmkM;obtain⟨WR,WK,WV⟩:=W;simp only at hk hv HBi HSu ⊢;rw[hk,hv]at HBi ⊢;have HBl:Hid ((mZ ins names.length ⟨WR,WK,WV⟩).length=names.length):=by unfold Hid mZ;simp
 generalize hBD:mZ ins names.length ⟨WR,WK,WV⟩=bits at *;have HBD:=zA hBD;clear hBD;clear hB hW hns hrc hap hsu hhd hM;generalize hN:names.length=N at *;clear hN;have nb:w.heap.size≠b:=by omega
 have nb1:w.heap.size+1≠b:=by omega
 go_enter Tryz.func116,Tryz.ntmps116
 go_wp2_with fail
 generalize hO:Obj.cells #[.slice ra WR.length rc,.slice ka N kc,.slice va N vc] 170=OV at *;have HOv:=zA hO;clear hO;have y0:((w.alloc OV).alloc (.cells #[.slice none 0 0,.slice none 0 0,.slice none 0 0] 170)).heap[w.heap.size]? = some OV:=zQ (zS _ _)
 have y1:((w.alloc OV).alloc (.cells #[.slice none 0 0,.slice none 0 0,.slice none 0 0] 170)).heap[w.heap.size+1]? = some (.cells #[.slice none 0 0,.slice none 0 0,.slice none 0 0] 170):=by
  have h9:=zS (w.alloc OV) (.cells #[.slice none 0 0,.slice none 0 0,.slice none 0 0] 170);rw[show (w.alloc OV).heap.size=w.heap.size+1 by simp]at h9;exact h9
 have hb0:Below w.heap.size w ((w.alloc OV).alloc (.cells #[.slice none 0 0,.slice none 0 0,.slice none 0 0] 170)):=((Below.refl _ _).alloc (Nat.le_refl _) _).alloc (by simp) _;have hs0:((w.alloc OV).alloc (.cells #[.slice none 0 0,.slice none 0 0,.slice none 0 0] 170)).heap.size=w.heap.size+2:=by simp
 refine(HBi.out _ hb0).mono ?_;generalize (w.alloc OV).alloc (.cells #[.slice none 0 0,.slice none 0 0,.slice none 0 0] 170)=w0 at *;rintro e w1 ⟨g7,rfl,hI7,hb1⟩;have HI7:=zA hI7;have HB1:Hid (Below w.heap.size w w1):=hb0.trans (hb1.mono (by omega));have HY0:Hid (w1.heap[w.heap.size]? = some OV):=by unfold Hid;rw[hb1.block _ (by omega)];exact y0
 have HY1:Hid (w1.heap[w.heap.size+1]? = some (.cells #[.slice none 0 0,.slice none 0 0,.slice none 0 0] 170)):=by unfold Hid;rw[hb1.block _ (by omega)];exact y1
 have n1:w1.cell? ⟨b,1,none⟩=some (.slice na N nc):=by rw[HB1.out.cell (p:=⟨b,1,none⟩) hbl];exact hn1
 have i1:w1.cell? ⟨b,2,none⟩=some (.int .i64 (ins:Int)):=by rw[HB1.out.cell (p:=⟨b,2,none⟩) hbl];exact hi
 have r1:w1.cell? ⟨b,3,none⟩=some (.slice ra4 rs.length rc4):=by rw[HB1.out.cell (p:=⟨b,3,none⟩) hbl];exact hr3
 have hs1:w.heap.size+2<=w1.heap.size:=by have:=hb1.size;omega
 have hbl1:b<w1.heap.size:=by omega
 have m1:w1.heap.size≠b:=by omega
 have m2:w1.heap.size+1≠b:=by omega
 have m3:w1.heap.size+2≠b:=by omega
 have m4:w1.heap.size+3≠b:=by omega
 have m5:b<w1.heap.size+1:=by omega
 have m6:b<w1.heap.size+2:=by omega
 have m7:b<w1.heap.size+3:=by omega
 have m8:b<w1.heap.size+1+1:=by omega
 have m9:b<w1.heap.size+1+1+1:=by omega
 clear hI7 hb1 hb0 y0 y1 HBi hn1 hi hr3;go_wp2_with fail
 go_cut [8] from 15 to 184 (fun v8 wx=>∃g8 gR gK gV,v8=.pointer (some ⟨g8,0,none⟩)/\Hid (dN wx w1.heap.size g8 gR gK gV rs.length N (List.replicate rs.length 0) (List.replicate N 0) (List.replicate N 0))/\Hid (Below w1.heap.size w1 wx))
 case first =>
  as_aux_lemma =>
   go_region
   all_goals
    go_wp2_with fail
    go_meet
    exact⟨_,_,_,_,rfl,zA ⟨by repeat (with_reducible first|(refine gM _ _ _ ?_;simp;done)|refine yI ?_|refine zQ ?_),by (unfold kF;repeat (with_reducible first|(refine gM _ _ _ ?_;simp;done)|refine yI ?_|refine zQ ?_)),by (unfold kF;repeat (with_reducible first|(refine gM _ _ _ ?_;simp;done)|refine yI ?_|refine zQ ?_)),by (unfold kF;repeat (with_reducible first|(refine gM _ _ _ ?_;simp;done)|refine yI ?_|refine zQ ?_)),by simp,by simp,by simp,by omega,by omega⟩,zA (((((Below.refl _ _).alloc (Nat.le_refl _) _).alloc (by simp) _).alloc (by simp;omega) _).alloc (by simp;omega) _).drew⟩
 case rest =>
  obtain⟨g8,gR,gK,gV,rfl,HNv,HB2⟩:=hcut;clear hmkN hmkM m1 m2 m3 m4 m5 m6 m7 m8 m9;have hs2:=HB2.out.size;have n2:wc.cell? ⟨b,1,none⟩=some (.slice na N nc):=by rw[HB2.out.cell (p:=⟨b,1,none⟩) hbl1];exact n1
  have i2:wc.cell? ⟨b,2,none⟩=some (.int .i64 (ins:Int)):=by rw[HB2.out.cell (p:=⟨b,2,none⟩) hbl1];exact i1
  have r2:wc.cell? ⟨b,3,none⟩=some (.slice ra4 rs.length rc4):=by rw[HB2.out.cell (p:=⟨b,3,none⟩) hbl1];exact r1
  have x0:wc.heap[w.heap.size]? = some OV:=by rw[HB2.out.block _ (by omega)];exact HY0.out
  rw[<-HOv.out]at x0;have x2:=zF x0 2;simp only[List.getElem?_toArray,List.getElem?_cons_zero,List.getElem?_cons_succ]at x2;have y2:=zF HNv.out.vw 2;simp only[List.getElem?_toArray,List.getElem?_cons_zero,List.getElem?_cons_succ]at y2;have hbl2:b<wc.heap.size:=by omega
  have hinI:(ins:Int)<=(N:Int):=by omega
  have HVl:Hid (∀j,j<N->WV[j]?.isSome):=fun j hj=>by simp;omega
  have hcp:=HNv.out.v;unfold kF at hcp;have HCp:=zA hcp;have zGJ:Hid (Below w.heap.size w wc):=HB1.out.trans (HB2.out.mono (by omega));have HWc:=zA (HW.out.below zGJ.out);have HCq:Hid (wc.drew.heap[gV]? = some (.cells (vS (List.replicate N 0)).toArray 3 (0,0))):=HCp;have hc1:(vS (WV.take ins)).length=Nat.min N ins:=by rw[qS,List.length_take,hv];exact Nat.min_comm _ _
  have hc2:0<(vS (WV.take ins)).length->∃ad,va=some ad/\∀j v,(vS (WV.take ins))[j]? = some v->wc.drew.cell? (ad.add j)=some v:=fun h0=>by
   obtain⟨g',e',c'⟩:=HWc.out.vals.at (show 0<WV.length by rw[qS,List.length_take]at h0;omega);refine⟨_,e',fun j v hj=>?_⟩;have hjl:j<(WV.take ins).length:=by rw[<-qS];exact(List.getElem?_eq_some_iff.1 hj).1
   rw[List.length_take]at hjl;obtain⟨g'',e'',c''⟩:=HWc.out.vals.at (show j<WV.length by omega);obtain rfl:g'=g'':=by rw[e']at e'';simpa using e''
   rw[aH];show wc.cell? ⟨g',j,none⟩=_;rw[c''];rw[nV _ _ (by rw[List.length_take];omega)]at hj;rw[<-hj];simp only[List.getD,List.getElem?_take,show j<ins by omega,if_true]
  have hc3:0+(vS (WV.take ins)).length<=(vS (List.replicate N 0)).length:=by rw[qS,qS,List.length_take,List.length_replicate];omega
  have hc4:∀v∈vS (WV.take ins),v.oneCell'=true:=fun v hv=>by
   obtain⟨x,_,rfl⟩:=List.mem_map.1 hv;rfl
  have HSp:Hid (some (Obj.cells (splice (vS (List.replicate N 0)) 0 (vS (WV.take ins))).toArray 3 (0,0))=some (.cells (iC (WV.take ins++List.replicate (N-ins) 0)) 3 (0,0))):=by
   unfold Hid splice iC;rw[aT,qS,List.length_take,hv,Nat.zero_add,Nat.min_eq_left zGA];simp[vS]
  have HC1:=zA hc1;have HC2:=zA hc2;have HC3:=zA hc3;have HC4:=zA hc4;clear hc1 hc2 hc3 hc4 hcp HCp HVl;go_wp2_with fail
  go_cut [8] from 15 to 184 (fun v8 wx=>v8=.pointer (some ⟨g8,0,none⟩)/\Hid (dN wx w1.heap.size g8 gR gK gV rs.length N (List.replicate rs.length 0) (List.replicate N 0) (WV.take ins++List.replicate (N-ins) 0))/\Hid (Below w1.heap.size w1 wx))
  case first =>
   go_region_law (refine YQ (by rfl) _ _ 59 59 (by rfl) 3 Tryz.underlying59 (by kernel_rfl) (some ⟨gV,0,none⟩) va ins N N vc (by rfl) (by rfl) gV 0 (vS (List.replicate N 0)) 3 HCq.out (vS (WV.take ins)) HC1.out (fun h=>⟨rfl,HC2.out h⟩) HC3.out HC4.out ?_;intro w3 hw3 hon3)
   all_goals
    go_wp2_with fail
    go_meet
    have hon:xL gV wc w3:=⟨hon3.os,hon3.tape,hon3.output,hon3.size,hon3.block⟩;obtain⟨a1,a2,a3,a4,a5,a6⟩:=HNv.out.apart;exact⟨rfl,zA ⟨by rw[hon.block g8 (yD HNv.out.vw) a6];exact HNv.out.vw,HNv.out.r.only hon a2,HNv.out.k.only hon a3,by unfold kF;rw[hw3];exact HSp.out,HNv.out.lr,HNv.out.lk,by simp[hv];omega,HNv.out.lo,HNv.out.apart⟩,zA (HB2.out.trans (hon.below (by omega) HNv.out.lo.2.2.2))⟩
  case rest =>
   obtain⟨rfl,HNw,HB3⟩:=hcut;clear HNv HB2 n2 i2 r2 x0 x2 y2 HC1 HC2 HC3 HC4 HCq HSp zGJ HWc hs2 hbl2;generalize hwB:wc=wB at *;clear hwB;have hs3:=HB3.out.size;have n3:wB.cell? ⟨b,1,none⟩=some (.slice na N nc):=by rw[HB3.out.cell (p:=⟨b,1,none⟩) hbl1];exact n1
   have i3:wB.cell? ⟨b,2,none⟩=some (.int .i64 (ins:Int)):=by rw[HB3.out.cell (p:=⟨b,2,none⟩) hbl1];exact i1
   have r3:wB.cell? ⟨b,3,none⟩=some (.slice ra4 rs.length rc4):=by rw[HB3.out.cell (p:=⟨b,3,none⟩) hbl1];exact r1
   have hmkB':=hmkB;go_wp2_with fail
   have HM0:Hid (xV (wB.alloc (.cells (gC (List.replicate rs.length false)) 4)) wB.heap.size (List.replicate rs.length false)):=zS _ _;have HO0:Hid (Below wB.heap.size wB (wB.alloc (.cells (gC (List.replicate rs.length false)) 4))):=(Below.refl _ _).alloc (Nat.le_refl _) _;have hO1:wB.heap.size<(wB.alloc (.cells (gC (List.replicate rs.length false)) 4)).heap.size:=by simp
   clear hmkB hmkB';have HBwB:Hid (Below w.heap.size w wB):=HB1.out.trans (HB3.out.mono (by omega))
   go_loopw [10] (fun iv wr=>∃(i:Nat) (L:List Bool),i<=rs.length/\Hid (L.length=rs.length)/\iv=.int .i64 i/\Hid (xV wr wB.heap.size L)/\Hid (Below wB.heap.size wB wr)/\wB.heap.size<wr.heap.size/\Hid (∀j,j<i->L.getD j false=ZH ins bits (rs.getD j dG).1)) (fun iv _=>rs.length-(intOf iv).toNat)
   case atStart=>exact⟨0,List.replicate rs.length false,Nat.zero_le _,zA (by simp),rfl,HM0,HO0,hO1,zA (fun j hj=>by omega)⟩
   case round =>
    obtain⟨i,L,hi,HLl,rfl,HM,HBz,hszz,HE⟩:=hrel;have zGJ:Hid (Below w.heap.size w wr):=HBwB.out.trans (HBz.out.mono (by omega));have hbB:b<wB.heap.size:=by omega
    have r4:wr.cell? ⟨b,3,none⟩=some (.slice ra4 rs.length rc4):=by rw[HBz.out.cell (p:=⟨b,3,none⟩) hbB];exact r3
    have i4:wr.cell? ⟨b,2,none⟩=some (.int .i64 (ins:Int)):=by rw[HBz.out.cell (p:=⟨b,2,none⟩) hbB];exact i3
    have n4:wr.cell? ⟨b,1,none⟩=some (.slice na N nc):=by rw[HBz.out.cell (p:=⟨b,1,none⟩) hbB];exact n3
    by_cases zFY:i<rs.length
    ·have hrr:=HRc.out.below zGJ.out
     obtain⟨gr,rfl,q0⟩:=hrr.at ((yQ zBO 4 (fun _=>rfl) dG rs i 0 zFY (by decide)).trans rfl);have q1:=(hrr.at ((yQ zBO 4 (fun _=>rfl) dG rs i 1 zFY (by decide)).trans rfl)).elim fun g' h=>(show gr=g' by simpa using h.1) ▸ h.2;have q2:=(hrr.at ((yQ zBO 4 (fun _=>rfl) dG rs i 2 zFY (by decide)).trans rfl)).elim fun g' h=>(show gr=g' by simpa using h.1) ▸ h.2;have q3:=(hrr.at ((yQ zBO 4 (fun _=>rfl) dG rs i 3 zFY (by decide)).trans rfl)).elim fun g' h=>(show gr=g' by simpa using h.1) ▸ h.2;rw[Nat.add_zero]at q0
     have HA1:Hid (Calls Tryz.prog 43 #[.pointer (some ⟨b,0,none⟩),zCS (rs.getD i dG),.slice (some ⟨g7,0,none⟩) N N] wr fun e w'=>e=.returned (.bool (ZH ins bits (rs.getD i dG).1))/\Below wr.heap.size wr w'):=by
      have h9:=G8 wr b (rs.getD i dG) ins (some ⟨g7,0,none⟩) N bits ((HRows.out _ (mB dG zFY)).below zGJ.out) i4 ((HI7.out.below ((HB3.out.trans (HBz.out.mono hs3)).mono (Nat.le_refl _))).ints (by rw[HBl.out];exact hfn)) (HAp.out _ (mB dG zFY));rw[HBl.out]at h9;exact h9
     have HCl:Hid (∀w5,Below wr.heap.size wr w5->∃v,w5.cell? ⟨wB.heap.size,i,none⟩=some (.bool v)):=fun w5 hb5=>by
      exact⟨_,(hb5.cell (p:=⟨wB.heap.size,i,none⟩) hszz).trans (HM.out.cell (by rw[HLl.out];exact zFY))⟩
     have HSet:Hid (∀z,z=ZH ins bits (rs.getD i dG).1->∀j,j<i+1->(L.set i z).getD j false=ZH ins bits (rs.getD j dG).1):=fun z hz j hj=>by
      rw[lJ L i j z false (by rw[HLl.out];exact zFY)];split
      ·rename_i e;subst e;exact hz
      ·exact HE.out j (by omega)
     clear hrr;generalize hAns:ZH ins bits (rs.getD i dG).1=z at *;have HSet2:=zA (HSet.out z rfl);clear hAns HSet;generalize rs.getD i dG=x at *;obtain⟨⟨lab,hd',ps,st⟩,pv,sv⟩:=x;simp only[zCS]at HA1;simp only at q0 q1 q2 q3;have ii:(i:Int)<(rs.length:Int):=by omega
     go_wp2_with fail
     refine HA1.out.mono ?_;rintro e w5 ⟨rfl,hb5⟩;have HB5:=zA hb5;have HM5:=zA (HM.out.below HB5.out);have hs5:=HB5.out.size;obtain⟨oldz,hcz⟩:=HCl.out w5 HB5.out;have hfz:=HM5.out.free i;have HM6:=zA (HM5.out.set i z);have HB6:Hid (Below wB.heap.size wB (w5.setCell ⟨wB.heap.size,i,none⟩ (.bool z))):=(HBz.out.trans (HB5.out.mono (Nat.le_of_lt hszz))).setCell (p:=⟨wB.heap.size,i,none⟩) (Nat.le_refl _) _;have hs6:wB.heap.size<(w5.setCell ⟨wB.heap.size,i,none⟩ (.bool z)).heap.size:=HM6.out.lt;clear hb5 HA1 HCl;go_wp2_with fail
     go_roundw
     case rel=>exact⟨i+1,L.set i z,by omega,zA (by have:=HLl.out;simpa using this),by go_num,HM6,HB6,hs6,HSet2⟩
     case measure=>simp[intOf];omega
    ·have HOn:Hid (∀j,j<rs.length->L.getD j false=ZH ins bits (rs.getD j dG).1):=fun j hj=>HE.out j (by omega)
     have ii:¬(i:Int)<(rs.length:Int):=by omega
     clear HE;have HBo:Hid (Below w1.heap.size w1 wr):=HB3.out.trans (HBz.out.mono hs3);have HNd:=zA (HNw.out.below HBz.out);have hoR:gR≠wB.heap.size:=Nat.ne_of_lt HNw.out.r.lt;have hoK:gK≠wB.heap.size:=Nat.ne_of_lt HNw.out.k.lt;have hoV:gV≠wB.heap.size:=Nat.ne_of_lt HNw.out.v.lt;have ho8:g8≠wB.heap.size:=Nat.ne_of_lt (yD HNw.out.vw);have HLp:Hid (Uo rs.length N ins abv (fun j=>L.getD j false) (fun j=>(rs.getD j dG).1.head) (fun j=>eA WV (rs.getD j dG).1.parts) WV 0 (List.replicate rs.length 0) (List.replicate N 0) (WV.take ins++List.replicate (N-ins) 0)):=Uo.zero hv zGA;clear HNw HBz;go_wp2_with fail
     generalize hwD:wr=wD at *;clear hwD
     go_loopw [11] (fun iv wr=>∃(i:Nat) (R K V:List Int),i<=rs.length/\iv=.int .i64 i/\Hid (dN wr w1.heap.size g8 gR gK gV rs.length N R K V)/\Hid (xV wr wB.heap.size L)/\Hid (Below w1.heap.size w1 wr)/\Hid (Uo rs.length N ins abv (fun j=>L.getD j false) (fun j=>(rs.getD j dG).1.head) (fun j=>eA WV (rs.getD j dG).1.parts) WV i R K V)) (fun iv _=>rs.length-(intOf iv).toNat)
     case atStart=>exact⟨0,_,_,_,Nat.zero_le _,rfl,HNd,HM,HBo,HLp⟩
     case round =>
      clear HNd HM HBo HLp;obtain⟨i,R,K,V,hi,rfl,HN,HM,HBo,HLp⟩:=hrel;have hbB:b<w1.heap.size:=hbl1;have r5:wr.cell? ⟨b,3,none⟩=some (.slice ra4 rs.length rc4):=by rw[HBo.out.cell (p:=⟨b,3,none⟩) hbB];exact r1
      have i5:wr.cell? ⟨b,2,none⟩=some (.int .i64 (ins:Int)):=by rw[HBo.out.cell (p:=⟨b,2,none⟩) hbB];exact i1
      have n5:wr.cell? ⟨b,1,none⟩=some (.slice na N nc):=by rw[HBo.out.cell (p:=⟨b,1,none⟩) hbB];exact n1
      have zGJ:Hid (Below w.heap.size w wr):=HB1.out.trans (HBo.out.mono (by omega));by_cases zFY:i<rs.length
      ·have ii2:(i:Int)<(rs.length:Int):=by omega
       have cO:=HM.out.cell (show i<L.length by rw[HLl.out];exact zFY);cases hon:L.getD i false
       ·rw[hon]at cO
        have HL2:=zA (HLp.out.off hon);go_wp2_with fail
        go_roundw
        case rel=>exact⟨i+1,R,K,V,by omega,by go_num,HN,HM,HBo,HL2⟩
        case measure=>simp[intOf];omega
       ·rw[hon]at cO
        have HOi:=zA hon;have y8:=zF HN.out.vw 0;simp only[List.getElem?_toArray,List.getElem?_cons_zero]at y8;have cR:=HN.out.r.cell (show i<R.length by rw[HN.out.lr];exact zFY);have fR:=HN.out.r.free i;have m8R:g8≠gR:=HN.out.apart.2.2.2.1;clear hon;generalize R.getD i 0=ri at *;have HNs:=zA (HN.out.setR i 2);have HMs:Hid (xV (wr.setCell ⟨gR,i,none⟩ (.int .i64 2)) wB.heap.size L):=HM.out.other (p:=⟨gR,i,none⟩) (fun e=>hoR e.symm) _;have HBs:Hid (Below w1.heap.size w1 (wr.setCell ⟨gR,i,none⟩ (.int .i64 2))):=HBo.out.setCell (p:=⟨gR,i,none⟩) HN.out.lo.2.1 _;go_wp2_with fail
        have HRs:Hid (R.set i 2=R.set i (if tM 0 abv (fun j=>L.getD j false) i=true then 1 else 2)):=rfl;rw[HRs.out]at HNs;clear HRs r5 i5 n5 cO y8 cR fR;generalize hwE:wr.setCell ⟨gR,i,none⟩ (.int .i64 2)=wE at *;clear hwE
        go_loopw [12] (fun kv wx=>∃(k:Nat),k<=rs.length/\kv=.int .i64 k/\Hid (dN wx w1.heap.size g8 gR gK gV rs.length N (R.set i (if tM k abv (fun j=>L.getD j false) i=true then 1 else 2)) K V)/\Hid (xV wx wB.heap.size L)/\Hid (Below w1.heap.size w1 wx)) (fun kv _=>rs.length-(intOf kv).toNat)
        case atStart=>exact⟨0,Nat.zero_le _,rfl,HNs,HMs,HBs⟩
        case round =>
         clear HNs HMs HBs;obtain⟨k,hk,rfl,HNk,HMk,HBk⟩:=hrel;have r6:wr.cell? ⟨b,3,none⟩=some (.slice ra4 rs.length rc4):=by rw[HBk.out.cell (p:=⟨b,3,none⟩) hbB];exact r1
         have HBwk:Hid (Below w.heap.size w wr):=HB1.out.trans (HBk.out.mono (by omega));by_cases hkl:k<rs.length
         ·have kk:(k:Int)<(rs.length:Int):=by omega
          have cK:=HMk.out.cell (show k<L.length by rw[HLl.out];exact hkl);have HBs2:Hid (tM (k+1) abv (fun j=>L.getD j false) i=(tM k abv (fun j=>L.getD j false) i || (L.getD k false&&abv k i))):=Gm abv (fun j=>L.getD j false) i k;cases hkon:L.getD k false
          ·rw[hkon]at cK HBs2
           have HNk2:Hid (dN wr w1.heap.size g8 gR gK gV rs.length N (R.set i (if tM (k+1) abv (fun j=>L.getD j false) i=true then 1 else 2)) K V):=by unfold Hid;rw[HBs2.out,Bool.false_and,Bool.or_false];exact HNk.out
           clear HBs2 hkon;go_wp2_with fail
           go_roundw
           case rel=>exact⟨k+1,by omega,by go_num,HNk2,HMk,HBk⟩
           case measure=>simp[intOf];omega
          ·rw[hkon]at cK HBs2
           obtain⟨gm,cm,hev,zGQ,hgm,hbm⟩:=(HMt.out.below HBwk.out).row hkl;obtain rfl:aa=some ⟨gm,0,none⟩:=by injection hev
           have hci:=hbm.cell (show i<(jY abv k rs.length rs.length).length by rw[nQ];exact zFY);rw[Zw abv k rs.length i zFY]at hci;generalize gs.getD k 0=gk at *;cases hab:abv k i
           ·rw[hab]at hci HBs2
            have HNk2:Hid (dN wr w1.heap.size g8 gR gK gV rs.length N (R.set i (if tM (k+1) abv (fun j=>L.getD j false) i=true then 1 else 2)) K V):=by unfold Hid;rw[HBs2.out,Bool.and_false,Bool.or_false];exact HNk.out
            clear HBs2 hkon hab hev hbm;go_wp2_with fail
            go_roundw
            case rel=>exact⟨k+1,by omega,by go_num,HNk2,HMk,HBk⟩
            case measure=>simp[intOf];omega
           ·rw[hab]at hci HBs2
            have z8:=zF HNk.out.vw 0;simp only[List.getElem?_toArray,List.getElem?_cons_zero]at z8;have cR:=HNk.out.r.cell (show i<(R.set i (if tM k abv (fun j=>L.getD j false) i=true then 1 else 2)).length by rw[HNk.out.lr];exact zFY);have fR:=HNk.out.r.free i;have m8R:g8≠gR:=HNk.out.apart.2.2.2.1
            have HNk2:Hid (dN (wr.setCell ⟨gR,i,none⟩ (.int .i64 1)) w1.heap.size g8 gR gK gV rs.length N (R.set i (if tM (k+1) abv (fun j=>L.getD j false) i=true then 1 else 2)) K V):=by
             have h9:=HNk.out.setR i 1;rw[List.set_set]at h9;unfold Hid;rw[HBs2.out,Bool.true_and,Bool.or_true,if_pos rfl];exact h9
            have HMk2:Hid (xV (wr.setCell ⟨gR,i,none⟩ (.int .i64 1)) wB.heap.size L):=HMk.out.other (p:=⟨gR,i,none⟩) (fun e=>hoR e.symm) _;have HBk2:Hid (Below w1.heap.size w1 (wr.setCell ⟨gR,i,none⟩ (.int .i64 1))):=HBk.out.setCell (p:=⟨gR,i,none⟩) HNk.out.lo.2.1 _;clear HBs2 hkon hab hev hbm;generalize (R.set i (if tM k abv (fun j=>L.getD j false) i=true then 1 else 2)).getD i 0=ri2 at *;go_wp2_with fail
            go_roundw
            case rel=>exact⟨k+1,by omega,by go_num,HNk2,HMk2,HBk2⟩
            case measure=>simp[intOf];omega
         ·obtain rfl:k=rs.length:=by omega
          have kk:¬(rs.length:Int)<(rs.length:Int):=by omega
          have hrr:=HRc.out.below HBwk.out;obtain⟨gr,rfl,q1⟩:=hrr.at ((yQ zBO 4 (fun _=>rfl) dG rs i 1 zFY (by decide)).trans rfl);have q0:=(hrr.at ((yQ zBO 4 (fun _=>rfl) dG rs i 0 zFY (by decide)).trans rfl)).elim fun g' h=>(show gr=g' by simpa using h.1) ▸ h.2;have q2:=(hrr.at ((yQ zBO 4 (fun _=>rfl) dG rs i 2 zFY (by decide)).trans rfl)).elim fun g' h=>(show gr=g' by simpa using h.1) ▸ h.2;have q3:=(hrr.at ((yQ zBO 4 (fun _=>rfl) dG rs i 3 zFY (by decide)).trans rfl)).elim fun g' h=>(show gr=g' by simpa using h.1) ▸ h.2;rw[Nat.add_zero]at q0;have z8:=zF HNk.out.vw 0;have z81:=zF HNk.out.vw 1;have z82:=zF HNk.out.vw 2;simp only[List.getElem?_toArray,List.getElem?_cons_zero,List.getElem?_cons_succ]at z8 z81 z82;have cR:=HNk.out.r.cell (show i<(R.set i (if tM rs.length abv (fun j=>L.getD j false) i=true then 1 else 2)).length by rw[HNk.out.lr];exact zFY);have hRl:i<R.length:=by rw[HN.out.lr];exact zFY
          rw[lJ R i i _ 0 hRl,if_pos rfl]at cR;cases hbt:tM rs.length abv (fun j=>L.getD j false) i
          ·rw[hbt]at cR HNk
           simp only[Bool.false_eq_true,if_false]at cR HNk;obtain⟨hd1,hd2⟩:=HHd.out _ (mB dG zFY)
           have HSm:Hid (∀w',Below w.heap.size w w'->Calls Tryz.prog 182 #[.pointer (some ⟨b,0,none⟩),zCS (rs.getD i dG),.slice va N vc] w' fun e w''=>e=.returned (.int .i64 (eA WV (rs.getD i dG).1.parts))/\Below w'.heap.size w' w''):=fun w' hb'=>by
            have h9:=zEG w' b (rs.getD i dG) va vc WV ((HRows.out _ (mB dG zFY)).below hb') (HW.out.below hb').vals (HSu.out _ (mB dG zFY));rw[hv]at h9;exact h9
           obtain⟨cN,hcN⟩:∃cN:Nat,(rs.getD i dG).1.head=(cN:Int):=⟨(rs.getD i dG).1.head.toNat,by omega⟩;have zGL:cN<N:=by omega
           have HLst:Hid (Uo rs.length N ins abv (fun j=>L.getD j false) (fun j=>(rs.getD j dG).1.head) (fun j=>eA WV (rs.getD j dG).1.parts) WV (i+1) (R.set i 2) (K.set cN (if K.getD cN 0<2 then K.getD cN 0+1 else K.getD cN 0)) (V.set cN (eA WV (rs.getD i dG).1.parts))):=HLp.out.stand zFY HN.out.lr HN.out.lk HN.out.lv HOi.out hbt hcN (by omega) zGL;have cK:=HNk.out.k.cell (show cN<K.length by rw[HNk.out.lk];exact zGL);have cV:=HNk.out.v.cell (show cN<V.length by rw[HNk.out.lv];exact zGL);have hkr:0<=K.getD cN 0/\K.getD cN 0<=2:=by rw[HLp.out.k cN zGL];exact X5 _
           have x0:wr.heap[w.heap.size]? = some OV:=by rw[HBk.out.block _ (by omega)];exact HY0.out
           rw[<-HOv.out]at x0;have x2:=zF x0 2;simp only[List.getElem?_toArray,List.getElem?_cons_zero,List.getElem?_cons_succ]at x2;have cc1:(cN:Int)<(N:Int):=by omega
           rw[hcN]at q1;clear hrr hbt hd1 hd2 hkr x0;generalize eA WV (rs.getD i dG).1.parts=sv at *;generalize rs.getD i dG=x at *;obtain⟨⟨lab,hd',ps,st⟩,pv,sv2⟩:=x;simp only[zCS]at HSm;simp only at q0 q1 q2 q3 hcN;subst hcN;have fV:=HNk.out.v.free cN
           have HAf:Hid (∀w5,Below wr.heap.size wr w5->w5.cell? ⟨gV,cN,none⟩=some (.int .i64 (V.getD cN 0))/\w5.frozen? ⟨gV,cN,none⟩=false/\w5.cell? ⟨g8,2,none⟩=some (.slice (some ⟨gV,0,none⟩) N N)/\dN (w5.setCell ⟨gV,cN,none⟩ (.int .i64 sv)) w1.heap.size g8 gR gK gV rs.length N (R.set i 2) K (V.set cN sv)/\xV (w5.setCell ⟨gV,cN,none⟩ (.int .i64 sv)) wB.heap.size L/\Below w1.heap.size w1 (w5.setCell ⟨gV,cN,none⟩ (.int .i64 sv))):=fun w5 hb5=>by
            have hN5:=HNk.out.below hb5;refine⟨hN5.v.cell (by rw[hN5.lv];exact zGL),hN5.v.free cN,(zF hN5.vw 2).trans rfl,hN5.setV cN sv,(HMk.out.below hb5).other (p:=⟨gV,cN,none⟩) (fun e=>hoV e.symm) _,(HBk.out.trans (hb5.mono HBk.out.size)).setCell (p:=⟨gV,cN,none⟩) hN5.lo.2.2.2 _⟩
           go_upto_region 21 with fail
           go_cut [13] from 75 to 160 (fun v13 wx=>v13=.int .i64 cN/\Hid (dN wx w1.heap.size g8 gR gK gV rs.length N (R.set i 2) K (V.set cN sv))/\Hid (xV wx wB.heap.size L)/\Hid (Below w1.heap.size w1 wx))
           case first =>
            go_region_with (go_at_call 182
                            refine(HSm.out _ (Below.drew HBwk.out)).mono ?_;rintro e w5 ⟨rfl,hb5⟩;obtain⟨v51,v52,v53,v54,v55,v56⟩:=HAf.out w5 ((Below.drew (Below.refl _ _)).trans hb5))
            all_goals
             go_wp2_with fail
             go_meet
             exact⟨rfl,zA v54,zA v55,zA v56⟩
           case rest =>
            obtain⟨rfl,HNc,HMc,HBc⟩:=hcut;clear z8 z81 z82 cR cK cV q0 q1 q2 q3 x2 HAf HSm r6;have y81:=zF HNc.out.vw 1;simp only[List.getElem?_toArray,List.getElem?_cons_zero,List.getElem?_cons_succ]at y81;have cK2:=HNc.out.k.cell (show cN<K.length by rw[HNc.out.lk];exact zGL);have fK2:=HNc.out.k.free cN;have m8K:g8≠gK:=HNc.out.apart.2.2.2.2.1;have HNk3:=zA (HNc.out.setK cN);have HMk3:Hid (∀u,xV (wc.setCell ⟨gK,cN,none⟩ u) wB.heap.size L):=fun u=>HMc.out.other (p:=⟨gK,cN,none⟩) (fun e=>hoK e.symm) u;have HBk3:Hid (∀u,Below w1.heap.size w1 (wc.setCell ⟨gK,cN,none⟩ u)):=fun u=>HBc.out.setCell (p:=⟨gK,cN,none⟩) HNc.out.lo.2.2.1 u
            have HKs:Hid (K.set cN (K.getD cN 0)=K):=by
             unfold Hid;apply List.ext_getElem?
             intro j;rw[List.getElem?_set];split
             ·rename_i e;subst e
              by_cases hc9:cN<K.length
              ·simp[List.getD,hc9]
              ·rw[if_neg hc9,List.getElem?_eq_none (by omega)]
             ·rfl
            have hk2:0<=K.getD cN 0/\K.getD cN 0<=2:=by rw[HLp.out.k cN zGL];exact X5 _
            generalize K.getD cN 0=kv at *;by_cases kk2:kv<2
            ·rw[if_pos kk2]at HLst
             go_wp2_with fail
             go_roundw
             case rel=>exact⟨i+1,_,_,_,by omega,by go_num,zA (HNk3.out _),zA (HMk3.out _),zA (HBk3.out _),HLst⟩
             case measure=>simp[intOf];omega
            ·rw[if_neg kk2,HKs.out]at HLst
             go_wp2_with fail
             go_roundw
             case rel=>exact⟨i+1,_,_,_,by omega,by go_num,HNc,HMc,HBc,HLst⟩
             case measure=>simp[intOf];omega
          ·rw[hbt]at cR HNk
           simp only[if_true]at cR HNk;have HLbt:=zA (HLp.out.beat zFY HN.out.lr HOi.out hbt);clear hbt hrr;go_wp2_with fail
           go_roundw
           case rel=>exact⟨i+1,R.set i 1,K,V,by omega,by go_num,HNk,HMk,HBk,HLbt⟩
           case measure=>simp[intOf];omega
      ·obtain rfl:i=rs.length:=by omega
       have ii3:¬(rs.length:Int)<(rs.length:Int):=by omega
       have HL4:=zA (kr.start HLp.out);have HK4:Hid (∀h,h<N->K.getD h 0=kM (bG rs.length abv (fun j=>L.getD j false) (fun j=>(rs.getD j dG).1.head) h rs.length)):=HLp.out.k;have HR4:Hid (∀j,j<rs.length->R.getD j 0=rW rs.length abv (fun j=>L.getD j false) j):=fun j hj=>by rw[HLp.out.r j hj,if_pos hj]
       clear HLp HM;go_wp2_with fail
       clear r5 i5 n5
       go_loopw [14] (fun tv wx=>∃(t:Nat) (V4:List Int),ins<=t/\t<=N/\tv=.int .i64 t/\Hid (dN wx w1.heap.size g8 gR gK gV rs.length N R K V4)/\Hid (Below w1.heap.size w1 wx)/\Hid (kr rs.length N ins abv (fun j=>L.getD j false) (fun j=>(rs.getD j dG).1.head) (fun j=>eA WV (rs.getD j dG).1.parts) WV t V4)) (fun tv _=>N-(intOf tv).toNat)
       case atStart=>exact⟨ins,V,Nat.le_refl _,zGA,rfl,HN,HBo,HL4⟩
       case round =>
        clear HN HBo HL4;obtain⟨t,V4,ht1,ht2,rfl,HNt,HBt,HLt⟩:=hrel;have n6:wr.cell? ⟨b,1,none⟩=some (.slice na N nc):=by rw[HBt.out.cell (p:=⟨b,1,none⟩) hbB];exact n1
        have y81:=zF HNt.out.vw 1;have y82:=zF HNt.out.vw 2;simp only[List.getElem?_toArray,List.getElem?_cons_zero,List.getElem?_cons_succ]at y81 y82;by_cases htl:t<N
        ·have tt:(t:Int)<(N:Int):=by omega
         have cKt:=HNt.out.k.cell (show t<K.length by rw[HNt.out.lk];exact htl);have cVt:=HNt.out.v.cell (show t<V4.length by rw[HNt.out.lv];exact htl);have fVt:=HNt.out.v.free t;have m8V:g8≠gV:=HNt.out.apart.2.2.2.2.2;have hkt:=HK4.out t htl;by_cases k1:K.getD t 0=1
         ·have HL5:=zA (HLt.out.keep (hkt.symm.trans k1))
          have b1:(K.getD t 0==1)=true:=by simpa using k1
          rw[k1]at cKt;clear k1 hkt b1;generalize V4.getD t 0=v4 at *;go_wp2_with fail
          go_roundw
          case rel=>exact⟨t+1,V4,by omega,by omega,by go_num,HNt,HBt,HL5⟩
          case measure=>simp[intOf];omega
         ·have HL5:=zA (HLt.out.wipe htl ht1 HNt.out.lv (by rw[<-hkt];exact k1))
          have HN5:=zA (HNt.out.setV t 0);have HB5:Hid (Below w1.heap.size w1 (wr.setCell ⟨gV,t,none⟩ (.int .i64 0))):=HBt.out.setCell (p:=⟨gV,t,none⟩) HNt.out.lo.2.2.2 _;generalize K.getD t 0=kt at *;have b1:(kt != 1)=true:=by simpa using k1
          clear k1 hkt;generalize V4.getD t 0=v4 at *;go_wp2_with fail
          go_roundw
          case rel=>exact⟨t+1,V4.set t 0,by omega,by omega,by go_num,HN5,HB5,HL5⟩
          case measure=>simp[intOf];omega
        ·obtain rfl:t=N:=by omega
         have tt:¬(t:Int)<(t:Int):=by omega
         have HY1r:Hid (wr.heap[w.heap.size+1]? = some (.cells #[.slice none 0 0,.slice none 0 0,.slice none 0 0] 170)):=by unfold Hid;rw[HBt.out.block _ (by omega)];exact HY1.out
         have HBwr:Hid (Below w.heap.size w wr):=HB1.out.trans (HBt.out.mono (by omega));have hY:=HY1r.out;have z0:wr.cell? ⟨w.heap.size+1,0,none⟩=some (.slice none 0 0):=(zF hY 0).trans rfl;have z1:wr.cell? ⟨w.heap.size+1,1,none⟩=some (.slice none 0 0):=(zF hY 1).trans rfl;have z2:wr.cell? ⟨w.heap.size+1,2,none⟩=some (.slice none 0 0):=(zF hY 2).trans rfl;have q0:wr.frozen? ⟨w.heap.size+1,0,none⟩=false:=by simp[World.frozen?,hY]
         have q1:wr.frozen? ⟨w.heap.size+1,1,none⟩=false:=by simp[World.frozen?,hY]
         have q2:wr.frozen? ⟨w.heap.size+1,2,none⟩=false:=by simp[World.frozen?,hY]
         have y80:=zF HNt.out.vw 0;simp only[List.getElem?_toArray,List.getElem?_cons_zero]at y80;go_wp2_with fail
         have lR:=HNt.out.lo
         have HFr:Hid ((((wr.setCell ⟨w.heap.size+1,0,none⟩ (.slice (some ⟨gR,0,none⟩) rs.length rs.length)).setCell ⟨w.heap.size+1,1,none⟩ (.slice (some ⟨gK,0,none⟩) t t)).setCell ⟨w.heap.size+1,2,none⟩ (.slice (some ⟨gV,0,none⟩) t t)).heap[w.heap.size+1]? = some (.cells #[.slice (some ⟨gR,0,none⟩) rs.length rs.length,.slice (some ⟨gK,0,none⟩) t t,.slice (some ⟨gV,0,none⟩) t t] 170 (0,0))):=by
          have e0:=heap_setCell_same wr _ 0 _ _ (.slice (some ⟨gR,0,none⟩) rs.length rs.length) hY;have e1:=heap_setCell_same _ _ 1 _ _ (.slice (some ⟨gK,0,none⟩) t t) e0;have e2:=heap_setCell_same _ _ 2 _ _ (.slice (some ⟨gV,0,none⟩) t t) e1;unfold Hid;rw[e2];simp
         have HBf:Hid (Below w.heap.size w (((wr.setCell ⟨w.heap.size+1,0,none⟩ (.slice (some ⟨gR,0,none⟩) rs.length rs.length)).setCell ⟨w.heap.size+1,1,none⟩ (.slice (some ⟨gK,0,none⟩) t t)).setCell ⟨w.heap.size+1,2,none⟩ (.slice (some ⟨gV,0,none⟩) t t))):=((HBwr.out.setCell (p:=⟨w.heap.size+1,0,none⟩) (Nat.le_succ _) _).setCell (p:=⟨w.heap.size+1,1,none⟩) (Nat.le_succ _) _).setCell (p:=⟨w.heap.size+1,2,none⟩) (Nat.le_succ _) _;have HKp:Hid (∀ {g:Nat} {l:List Int},kF wr g l->g≠w.heap.size+1->kF (((wr.setCell ⟨w.heap.size+1,0,none⟩ (.slice (some ⟨gR,0,none⟩) rs.length rs.length)).setCell ⟨w.heap.size+1,1,none⟩ (.slice (some ⟨gK,0,none⟩) t t)).setCell ⟨w.heap.size+1,2,none⟩ (.slice (some ⟨gV,0,none⟩) t t)) g l):=fun h zG7=>((h.other (p:=⟨w.heap.size+1,0,none⟩) zG7 _).other (p:=⟨w.heap.size+1,1,none⟩) zG7 _).other (p:=⟨w.heap.size+1,2,none⟩) zG7 _;have hAg:aZ ins t (rs.map Prod.fst) abv ⟨WR,WK,WV⟩ ⟨R,K,V4⟩:=km HBD.out HOn.out HNt.out.lr HNt.out.lk HNt.out.lv HR4.out HK4.out HLt.out;refine bodyPost_ret (v:=.agg #[.slice (some ⟨gR,0,none⟩) rs.length rs.length,.slice (some ⟨gK,0,none⟩) t t,.slice (some ⟨gV,0,none⟩) t t]) (results_cell_row Tryz.results116 _ _ (w.heap.size+1) 170 #[.slice (some ⟨gR,0,none⟩) rs.length rs.length,.slice (some ⟨gK,0,none⟩) t t,.slice (some ⟨gV,0,none⟩) t t] (0,0) _ rfl HFr.out Tryz.underlying170 rfl Vm) rfl ⟨gR,gK,gV,⟨R,K,V4⟩,?_,⟨(HKp.out HNt.out.r (by omega)).ints (by rw[HNt.out.lr];exact hfr),(HKp.out HNt.out.k (by omega)).ints (by rw[HNt.out.lk];exact hfn),(HKp.out HNt.out.v (by omega)).ints (by rw[HNt.out.lv];exact hfn)⟩,hAg,⟨by omega,by omega,by omega⟩,HBf.out⟩;show _=Ending.returned (.agg #[.slice _ R.length _,.slice _ K.length _,.slice _ V4.length _]);rw[HNt.out.lr,HNt.out.lk,HNt.out.lv]
end Go.Proofs.YtnbpdffdnphbeaaGreatDoor
