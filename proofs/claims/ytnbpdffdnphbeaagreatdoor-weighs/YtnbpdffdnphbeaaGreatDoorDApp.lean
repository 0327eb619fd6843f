import Derived.Test.YtnbpdffdnphbeaaGreatDoorDHolds
set_option maxHeartbeats 2000000
set_option maxRecDepth 100000
namespace Go.Proofs.YtnbpdffdnphbeaaGreatDoor
open Go.RowKit
def zBQ:qE:=⟨0,0⟩
def zCS(x:RX):Value:=.agg #[.string ⟨x.1.label.toArray⟩,.int .i64 x.1.head,x.2.1,x.2.2]
def fE(ins:Nat)(vs:List Int)(l:List qE):Bool:=l.all fun p => !(decide ((ins:Int)<=p.a)&&(Yj vs p.a != 1))
def ZH(ins:Nat)(vs:List Int)(r:rJ):Bool:=fE ins vs r.parts&&nD vs r.steps
def VP(ins:Nat)(vs:List Int)(r:rJ):Prop:=(∀p∈r.parts,(ins:Int)<=p.a->Vp vs p.a)/\eI vs r.steps []
theorem VS{α:Type}(p:α->Bool)(d:α)(l:List α)(i:Nat)(h:i<l.length):(l.drop i).all p=(p (l.getD i d)&&(l.drop (i+1)).all p):=by
 rw[List.drop_eq_getElem_cons h,List.all_cons];simp[List.getD,h]
theorem mB{α:Type}{l:List α}{i:Nat}(d:α)(h:i<l.length):l.getD i d∈l:=by simp[List.getD,h]
theorem G9(w:World)(b:Nat)(x:RX)(ins:Nat)(va:Option Addr)(vc:Nat)(vs:List Int)(hx:Y0 w x)(hi:w.cell? ⟨b,2,none⟩=some (.int .i64 (ins:Int)))(hv:qQ w va vs)(zGG:VP ins vs x.1) :
 Calls Tryz.prog 43 #[.pointer (some ⟨b,0,none⟩),zCS x,.slice va vs.length vc] w fun e w'=>e=.returned (.bool (ZH ins vs x.1))/\Below w.heap.size w w':=by
 obtain⟨pa,pc,e1,hp⟩:=hx.parts;obtain⟨sa,sc,e2,hs⟩:=hx.steps;have hfp:=hx.few1;have HHo:=zA (fun w' (hb:Below w.heap.size w w')=>zCI w' sa va sc vc x.1.steps vs (hs.cel.below hb) hx.few2 (hv.below hb) zGG.2);have HP:=zA hp.cel;have HV:=zA hv;have HOk:=zA zGG.1;have HR:Hid (ZH ins vs x.1=(fE ins vs x.1.parts&&nD vs x.1.steps)):=rfl;have hbl:=xG hi;have nb:w.heap.size≠b:=by omega
 obtain⟨⟨lab,hd,ps,ss⟩,pv,sv⟩:=x;simp only at e1 e2 HHo HP HOk hfp HR;subst e1 e2;simp only[zCS];clear hx hp hs hv zGG;generalize nD vs ss=hh at *;generalize ZH ins vs ⟨lab,hd,ps,ss⟩=ans at *
 go_enter Tryz.func43,Tryz.ntmps43
 go_wp2_with fail
 go_loop [7] (fun iv=>∃(i:Nat),i<=ps.length/\iv=.int .i64 i/\Hid ((fE ins vs (ps.drop i)&&hh)=ans)) (fun iv=>ps.length-(intOf iv).toNat)
 case atStart=>exact⟨0,Nat.zero_le _,rfl,zA HR.out.symm⟩
 case round =>
  obtain⟨i,hii,rfl,HE⟩:=hrel;by_cases zFZ:i<ps.length
  ·obtain⟨gp,rfl,q0⟩:=HP.out.at ((yO fL 2 (fun _=>rfl) zBQ ps i 0 zFZ (by decide)).trans rfl)
   rw[Nat.add_zero]at q0;have hE:=HE.out;unfold fE at hE;rw[VS _ zBQ _ i zFZ]at hE;have zGB:=HOk.out _ (mB zBQ zFZ);have HE2:=zA hE;have lgp:=xG q0;have mgp:w.heap.size≠gp:=by omega
   clear HE hE;generalize ps.getD i zBQ=p at *;obtain⟨pa,pn⟩:=p;simp only at q0 zGB HE2;by_cases k1:(ins:Int)<=pa
   ·obtain⟨j1,j2⟩:=zGB k1
    obtain⟨na,rfl⟩:∃n:Nat,pa=(n:Int):=⟨pa.toNat,by omega⟩;obtain⟨gv,rfl,cv⟩:=HV.out.at (show na<vs.length by omega);have lgv:=xG cv;have mgv:w.heap.size≠gv:=by omega
    have hna:na<vs.length:=by omega
    simp only[Yj,Int.toNat_natCast]at HE2;generalize vs.getD na 0=xv at *;clear zGB j1 j2;by_cases k2:xv=1
    ·have HE3:Hid ((fE ins vs (ps.drop (i+1))&&hh)=ans):=by have:=HE2.out;rw[show (xv != 1)=false by simpa using k2]at this;simpa[fE,Hid] using this
     have b2:(xv != 1)=false:=by simpa using k2
     clear HE2 k2;go_wp2_with fail
     go_round
     case rel=>exact⟨i+1,by omega,by go_num,HE3⟩
     case measure=>simp[intOf];omega
    ·have HE3:Hid (ans=false):=by
      have:=HE2.out;rw[decide_eq_true k1,show (xv != 1)=true by simpa using k2]at this;simpa[Hid] using this.symm
     have b2:(xv != 1)=true:=by simpa using k2
     have b3:(xv==1)=false:=by simpa using k2
     clear HE2 k2;go_wp2_with fail
     go_ret
     exact⟨zE HE3.out.symm,(Below.refl _ _).alloc (Nat.le_refl _) _⟩
   ·have HE3:Hid ((fE ins vs (ps.drop (i+1))&&hh)=ans):=by have:=HE2.out;rw[decide_eq_false k1]at this;simpa[fE,Hid] using this
    clear HE2 zGB;go_wp2_with fail
    go_round
    case rel=>exact⟨i+1,by omega,by go_num,HE3⟩
    case measure=>simp[intOf];omega
  ·have HE3:Hid (hh=ans):=by have:=HE.out;rw[List.drop_eq_nil_of_le (by omega)]at this;simpa[fE,Hid] using this
   clear HE;go_wp2_with fail
   refine(HHo.out _ ((Below.refl _ _).alloc (Nat.le_refl _) _)).mono ?_;rintro e w2 ⟨rfl,hb2⟩;have HB2:Hid (Below w.heap.size w w2):=((Below.refl _ _).alloc (Nat.le_refl _) _).trans (hb2.mono (by simp));clear hb2;go_wp2_with fail
   go_ret
   exact⟨zE HE3.out,HB2.out⟩
def Xe(vs:List Int)(p:qE):Int:=if p.a<0 then p.n else p.n*Yj vs p.a
def Yf(vs:List Int):List qE->Int->Int
 | [],n=>n
 | p::r,n=>Yf vs r (n+Xe vs p)
def aY(vs:List Int)(l:List qE):Int:=Yf vs l 0
theorem BX(vs:List Int)(l:List qE)(i:Nat)(n:Int)(h:i<l.length):Yf vs (l.drop i) n=Yf vs (l.drop (i+1)) (n+Xe vs (l.getD i zBQ)):=by
 rw[List.drop_eq_getElem_cons h,Yf];simp[List.getD,h]
def tP:Int:=1152921504606846976
def U2(vs:List Int)(l:List qE):Prop:=l.length<=4/\∀p∈l,(0<=p.a->Vp vs p.a) /\ -tP<=Xe vs p/\Xe vs p<=tP
theorem zEH(w:World)(b:Nat)(x:RX)(va:Option Addr)(vc:Nat)(vs:List Int)(hx:Y0 w x)(hv:qQ w va vs)(zGG:U2 vs x.1.parts) :
 Calls Tryz.prog 182 #[.pointer (some ⟨b,0,none⟩),zCS x,.slice va vs.length vc] w fun e w'=>e=.returned (.int .i64 (aY vs x.1.parts))/\Below w.heap.size w w':=by
 obtain⟨pa,pc,e1,hp⟩:=hx.parts;obtain⟨sa,sc,e2,-⟩:=hx.steps;have HP:=zA hp.cel;have HV:=zA hv;have HOk:=zA zGG.2;have h4:=zGG.1;obtain⟨⟨lab,hd,ps,ss⟩,pv,sv⟩:=x;simp only at e1 e2 HP HOk h4;subst e1 e2;simp only[zCS];clear hx hp hv zGG
 go_enter Tryz.func182,Tryz.ntmps182
 go_wp2_with fail
 go_loopw [7,8] (fun nv iv wr=>∃(i:Nat) (n:Int),i<=ps.length/\nv=.int .i64 n/\iv=.int .i64 i /\ -((i:Int)*tP)<=n/\n<=(i:Int)*tP/\Hid (Below w.heap.size w wr)/\Hid (wr.heap[w.heap.size]? = some (.cells #[.string ⟨lab.toArray⟩,.int .i64 hd,.slice pa ps.length pc,.slice sa ss.length sc] 115 (0,0)))/\Hid (Yf vs (ps.drop i) n=aY vs ps)) (fun _ iv _=>ps.length-(intOf iv).toNat)
 case atStart=>exact⟨0,0,Nat.zero_le _,rfl,rfl,by simp,by simp,zA ((Below.refl _ _).alloc (Nat.le_refl _) _),zA (zS _ _),zA rfl⟩
 case round =>
  obtain⟨i,n,hii,rfl,rfl,hn1,hn2,HB,HBx,HE⟩:=hrel;have bx2:=zF HBx.out 2;have lbx:=yD HBx.out;simp only[List.getElem?_toArray,List.getElem?_cons_zero,List.getElem?_cons_succ]at bx2;by_cases zFZ:i<ps.length
  ·have hpr:=HP.out.below HB.out
   obtain⟨gp,rfl,q0⟩:=hpr.at ((yO fL 2 (fun _=>rfl) zBQ ps i 0 zFZ (by decide)).trans rfl);have q1:=(hpr.at ((yO fL 2 (fun _=>rfl) zBQ ps i 1 zFZ (by decide)).trans rfl)).elim fun g' h=>(show gp=g' by simpa using h.1) ▸ h.2;rw[Nat.add_zero]at q0;have hE:=HE.out;rw[BX vs ps i n zFZ]at hE;obtain⟨zGB,p1,p2⟩:=HOk.out _ (mB zBQ zFZ);have HE2:=zA hE;have lgp:=xG q0;have hi4:i<4:=by omega
   have hm1:(i:Int)*tP+tP=((i+1:Nat):Int)*tP:=by rw[Int.natCast_add,Int.add_mul];simp
   have hm2:(i:Int)*tP<=3*tP:=by have:i=0\/i=1\/i=2\/i=3:=by omega
                                 rcases this with rfl|rfl|rfl|rfl <;> decide
   clear HE hE hpr;generalize ps.getD i zBQ=p at *;obtain⟨pa,pn⟩:=p;unfold Xe at p1 p2 HE2;simp only at q0 q1 zGB p1 p2 HE2;by_cases k1:pa<0
   ·rw[if_pos k1]at p1 p2 HE2
    clear zGB;generalize ((i:Int)*tP)=iM at *;unfold tP at *;go_wp2_with fail
    go_roundw
    case rel=>exact⟨i+1,n+pn,by omega,rfl,by go_num,by omega,by omega,HB,HBx,HE2⟩
    case measure=>simp[intOf];omega
   ·rw[if_neg k1]at p1 p2 HE2
    obtain⟨j1,j2⟩:=zGB (by omega);obtain⟨na,rfl⟩:∃n:Nat,pa=(n:Int):=⟨pa.toNat,by omega⟩;have hna:na<vs.length:=by omega
    obtain⟨gv,rfl,cv⟩:=(HV.out.below HB.out).at hna;simp only[Yj,Int.toNat_natCast]at HE2 p1 p2;generalize vs.getD na 0=xv at *;obtain⟨q,hq⟩:∃q,q=pn*xv:=⟨_,rfl⟩;rw[<-hq]at p1 p2 HE2;have ina:((na:Nat):Int)<(vs.length:Int):=by omega
    have iii:((i:Nat):Int)<(ps.length:Int):=by omega
    have ng:¬(na:Int)<0:=by omega
    have hwq:wrap64 (pn*xv)=q:=by rw[<-hq];unfold wrap64;unfold tP at p1 p2;omega
    clear zGB j1 j2 k1 hq;generalize ((i:Int)*tP)=iM at *;unfold tP at *;go_wp2_with fail
    go_quiet (fail)
    go_wp2_with fail
    go_roundw
    case rel=>exact⟨i+1,n+q,by omega,by first|rfl|go_num,by go_num,by omega,by omega,zA (yE HB.out _),HBx,HE2⟩
    case measure=>simp[intOf];omega
  ·have HE3:Hid (n=aY vs ps):=by have:=HE.out;rw[List.drop_eq_nil_of_le (by omega)]at this;exact this
   clear HE;go_wp2_with fail
   go_ret
   exact⟨yA HE3.out,HB.out⟩
def iC(l:List Int):Array Value:=(vR l).toArray
theorem zEA{l:List Int}{k:Nat}(hk:k<l.length):(iC l)[k]? = some (.int .i64 (l.getD k 0)):=by
 unfold iC;rw[List.getElem?_toArray];exact nU l k hk
def kF(w:World)(g:Nat)(l:List Int):Prop:=w.heap[g]? = some (.cells (iC l) 3 (0,0))
theorem kF.cell{w:World}{g:Nat}{l:List Int}(h:kF w g l){k:Nat}(hk:k<l.length):w.cell? ⟨g,k,none⟩=some (.int .i64 (l.getD k 0)):=(zF h k).trans (zEA hk)
theorem kF.free{w:World}{g:Nat}{l:List Int}(h:kF w g l)(k:Nat):w.frozen? ⟨g,k,none⟩=false:=by simp[World.frozen?,show w.heap[g]? = _ from h]
theorem kF.lt{w:World}{g:Nat}{l:List Int}(h:kF w g l):g<w.heap.size:=yD h
theorem kF.set{w:World}{g:Nat}{l:List Int}(h:kF w g l)(k:Nat)(b:Int):kF (w.setCell ⟨g,k,none⟩ (.int .i64 b)) g (l.set k b):=by
 unfold kF at h ⊢;rw[setCell_eq_setRow w g k _ _ _ _ h,setRow_heap w g (iC l) _ _ _ h];congr 2
 unfold iC vR;simp[List.map_set]
theorem kF.below{w w':World}{g:Nat}{l:List Int}(h:kF w g l)(hb:Below w.heap.size w w'):kF w' g l:=by
 have hl:=h.lt;unfold kF at h ⊢;rw[hb.block g hl];exact h
theorem kF.other{w:World}{g:Nat}{l:List Int}(h:kF w g l){p:Addr}(hp:g≠p.block)(u:Value):kF (w.setCell p u) g l:=by
 unfold kF at h ⊢;rw[Below.heap_setCell _ _ _ _ hp];exact h
theorem kF.ints{w:World}{g:Nat}{l:List Int}(h:kF w g l)(hf:l.length<=10000):qQ w (some ⟨g,0,none⟩) l:=by
 refine⟨?_,hf⟩;rcases Nat.eq_zero_or_pos l.length with h0|h0
 ·exact .inl (by rw[List.eq_nil_of_length_eq_zero h0];rfl)
 ·exact .inr ⟨g,rfl,fun j hj=>by rw[qS]at hj;rw[h.cell hj,nU l j hj]⟩
theorem dR(n:Nat):madeCells #[Value.int .i64 0] n=iC (List.replicate n 0):=by
 apply Array.ext
 ·simp[madeCells,iC,vR]
 ·intro i h1 h2
  simp[madeCells,iC,vR,Nat.mod_one]
theorem mX:(Tryz.prog.info? 3).map (fun i=>(i.zero,i.size,i.bytes))=some (some (.int .i64 0),1,8):=by kernel_rfl
structure pJ where
 rules:List Int
 kinds:List Int
 vals:List Int
def Yw(ins:Nat)(W:pJ)(i:Nat):Int:=if i<ins then W.vals.getD i 0 else if W.kinds.getD i 0=1 then 1 else 0
def mZ(ins n:Nat)(W:pJ):List Int:=(List.range n).map (Yw ins W)
structure rE(w:World)(ra ka va:Option Addr)(W:pJ):Prop where
 rules:qQ w ra W.rules
 kinds:qQ w ka W.kinds
 vals:qQ w va W.vals
theorem rE.below{w w':World}{ra ka va:Option Addr}{W:pJ}(h:rE w ra ka va W)(hb:Below w.heap.size w w'):rE w' ra ka va W:=⟨h.rules.below hb,h.kinds.below hb,h.vals.below hb⟩
theorem V5{a b:List Int}(hl:a.length=b.length)(h:∀j,j<a.length->a.getD j 0=b.getD j 0):a=b:=by
 apply List.ext_getElem?
 intro j;rcases Nat.lt_or_ge j a.length with h1|h1
 ·have:=h j h1
  simp only[List.getD,List.getElem?_eq_getElem h1,List.getElem?_eq_getElem (show j<b.length by omega),Option.getD_some]at this;rw[List.getElem?_eq_getElem h1,List.getElem?_eq_getElem (show j<b.length by omega),this]
 ·rw[List.getElem?_eq_none h1,List.getElem?_eq_none (by omega)]
theorem FH(l:List Int)(i j:Nat)(x:Int)(hi:i<l.length):(l.set i x).getD j 0=if j=i then x else l.getD j 0:=by
 simp only[List.getD,List.getElem?_set];by_cases h:j=i
 ·subst h;simp[hi]
 ·rw[if_neg (fun e=>h e.symm),if_neg h]
theorem zEM(w:World)(b:Nat)(names:List Bs)(ins:Nat)(ra ka va:Option Addr)(rc kc vc:Nat)(W:pJ)(hN:aI w b names)(hi:w.cell? ⟨b,2,none⟩=some (.int .i64 (ins:Int)))(hW:rE w ra ka va W)(hk:W.kinds.length=names.length)(hv:W.vals.length=names.length) :
 Calls Tryz.prog 181 #[.pointer (some ⟨b,0,none⟩),.agg #[.slice ra W.rules.length rc,.slice ka W.kinds.length kc,.slice va W.vals.length vc]] w fun e w'=>∃g,e=.returned (.slice (some ⟨g,0,none⟩) names.length names.length)/\kF w' g (mZ ins names.length W)/\Below w.heap.size w w':=by
 obtain⟨na,nc,hn1,hns⟩:=hN;have hfn:=hns.few;have HW:=zA hW;have hbl:=xG hi;have nb:w.heap.size≠b:=by omega
 obtain⟨WR,WK,WV⟩:=W;simp only at hk hv ⊢
 have HBt:Hid (∀L:List Int,L.length=names.length->(∀j,j<names.length->L.getD j 0=Yw ins ⟨WR,WK,WV⟩ j)->mZ ins names.length ⟨WR,WK,WV⟩=L):=fun L h1 h2=>by
  refine(V5 (by simp[mZ,h1]) (fun j hj=>?_)).symm;rw[h1]at hj;rw[h2 j hj];simp[mZ,List.getD,hj]
 rw[hk,hv];clear hW hns;generalize hN:names.length=N at *;clear hN;have hmk:=run_make_row' (P:=Tryz.prog) 59 3 (.int .i64 0) 8 Tryz.underlying59 mX rfl .i64 .i64 N (by omega) (by omega);rw[dR]at hmk
 go_enter Tryz.func181,Tryz.ntmps181
 go_wp2_with fail
 generalize hO:Obj.cells #[.slice ra WR.length rc,.slice ka N kc,.slice va N vc] 170=OV at *
 have HM0:Hid (kF ((w.alloc OV).alloc (.cells (iC (List.replicate N 0)) 3)) (w.heap.size+1) (List.replicate N 0)):=by
  have h9:=zS (w.alloc OV) (.cells (iC (List.replicate N 0)) 3);rw[show (w.alloc OV).heap.size=w.heap.size+1 by simp]at h9;exact h9
 have hX1:((w.alloc OV).alloc (.cells (iC (List.replicate N 0)) 3)).heap[w.heap.size]? = some OV:=zQ (zS _ _);have HX:=zA hX1;have HOv:=zA hO;have HB0:Hid (Below w.heap.size w ((w.alloc OV).alloc (.cells (iC (List.replicate N 0)) 3))):=((Below.refl _ _).alloc (Nat.le_refl _) _).alloc (by simp) _;have hs0:((w.alloc OV).alloc (.cells (iC (List.replicate N 0)) 3)).heap.size=w.heap.size+2:=by simp
 clear hX1 hO hmk;generalize (w.alloc OV).alloc (.cells (iC (List.replicate N 0)) 3)=w0 at *
 go_loopw [6] (fun iv wr=>∃(i:Nat) (L:List Int),i<=N/\L.length=N/\iv=.int .i64 i/\Hid (kF wr (w.heap.size+1) L)/\Hid (xL (w.heap.size+1) w0 wr)/\Hid (∀j,j<i->L.getD j 0=Yw ins ⟨WR,WK,WV⟩ j)) (fun iv _=>N-(intOf iv).toNat)
 case atStart=>exact⟨0,List.replicate N 0,Nat.zero_le _,by simp,rfl,HM0,zA (xL.refl _ _),zA (fun j hj=>by omega)⟩
 case round =>
  obtain⟨i,L,hi',hL,rfl,HM,HOn,HE⟩:=hrel;have zGQ:Hid (Below (w.heap.size+1) w0 wr):=HOn.out.below (by omega) (Nat.le_refl _);have zGK:Hid (Below w.heap.size w wr):=HB0.out.trans (zGQ.out.mono (Nat.le_succ _));have hxr:wr.heap[w.heap.size]? = some (.cells #[.slice ra WR.length rc,.slice ka N kc,.slice va N vc] 170):=by rw[zGQ.out.block _ (Nat.lt_succ_self _),HX.out,<-HOv.out]
  have x1:=zF hxr 1;have x2:=zF hxr 2;simp only[List.getElem?_toArray,List.getElem?_cons_zero,List.getElem?_cons_succ]at x1 x2;have hir:wr.cell? ⟨b,2,none⟩=some (.int .i64 (ins:Int)):=by rw[zGK.out.cell (p:=⟨b,2,none⟩) hbl];exact hi
  by_cases zFZ:i<N
  ·obtain⟨gk,hgk,ck⟩:=(HW.out.below zGK.out).kinds.at (show i<WK.length by omega)
   obtain⟨gv,hgv,cv⟩:=(HW.out.below zGK.out).vals.at (show i<WV.length by omega);simp only at hgk ck hgv cv;subst hgk hgv
   have lk:gk<w.heap.size:=by
    obtain⟨g',e',c'⟩:=HW.out.kinds.at (show i<WK.length by omega);obtain rfl:gk=g':=by simpa using e'
    exact xG c'
   have lv:gv<w.heap.size:=by
    obtain⟨g',e',c'⟩:=HW.out.vals.at (show i<WV.length by omega);obtain rfl:gv=g':=by simpa using e'
    exact xG c'
   have m1:w.heap.size+1≠gk:=by omega
   have m2:w.heap.size+1≠gv:=by omega
   have m3:w.heap.size+1≠b:=by omega
   have m4:w.heap.size+1≠w.heap.size:=by omega
   have fz:=HM.out.free i;have cL:=HM.out.cell (show i<L.length by omega)
   have HSet:Hid (∀x,x=Yw ins ⟨WR,WK,WV⟩ i->∀j,j<i+1->(L.set i x).getD j 0=Yw ins ⟨WR,WK,WV⟩ j):=fun x hx j hj=>by
    rw[FH L i j x (by omega)];split
    ·rename_i e;subst e;exact hx
    ·exact HE.out j (by omega)
   have HBv:Hid (Yw ins ⟨WR,WK,WV⟩ i=if i<ins then WV.getD i 0 else if WK.getD i 0=1 then 1 else 0):=rfl;have HM1:=zA (HM.out.set i);generalize L.getD i 0=li at *;generalize WV.getD i 0=xv at *;generalize WK.getD i 0=xk at *;clear hxr;by_cases k1:i<ins
   ·rw[if_pos k1]at HBv
    have k2:¬(ins:Int)<=(i:Int):=by omega
    go_wp2_with fail
    go_roundw
    case rel=>exact⟨i+1,L.set i xv,by omega,by simpa using hL,by go_num,zA (HM1.out xv),zA (HOn.out.trans (xL.set _ _ _ _)),zA (HSet.out xv HBv.out.symm)⟩
    case measure=>simp[intOf];omega
   ·rw[if_neg k1]at HBv
    have k2:(ins:Int)<=(i:Int):=by omega
    by_cases k3:xk=1
    ·rw[if_pos k3]at HBv
     have b3:(xk==1)=true:=by simpa using k3
     clear k3;go_wp2_with fail
     go_roundw
     case rel=>exact⟨i+1,((L.set i xv).set i 0).set i 1,by omega,by simpa using hL,by go_num,zA (((HM1.out xv).set i 0).set i 1),zA (((HOn.out.trans (xL.set _ _ _ _)).trans (xL.set _ _ _ _)).trans (xL.set _ _ _ _)),by rw[List.set_set,List.set_set];exact zA (HSet.out 1 HBv.out.symm)⟩
     case measure=>simp[intOf];omega
    ·rw[if_neg k3]at HBv
     have b3:(xk==1)=false:=by simpa using k3
     clear k3;go_wp2_with fail
     go_roundw
     case rel=>exact⟨i+1,(L.set i xv).set i 0,by omega,by simpa using hL,by go_num,zA ((HM1.out xv).set i 0),zA ((HOn.out.trans (xL.set _ _ _ _)).trans (xL.set _ _ _ _)),by rw[List.set_set];exact zA (HSet.out 0 HBv.out.symm)⟩
     case measure=>simp[intOf];omega
  ·have HL:Hid (mZ ins N ⟨WR,WK,WV⟩=L):=HBt.out L hL (fun j hj=>HE.out j (by omega))
   go_wp2_with fail
   go_ret
   exact⟨_,rfl,by rw[HL.out];exact HM.out,zGK.out⟩
end Go.Proofs.YtnbpdffdnphbeaaGreatDoor
