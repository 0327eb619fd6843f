import Derived.Test.YtnbpdffdnphbeaaGreatDoorMBeaten
set_option maxHeartbeats 8000000
set_option maxRecDepth 100000
namespace Go.Proofs.YtnbpdffdnphbeaaGreatDoor
open Go.RowKit
structure zFW(w:World)(b o:Nat)(ia:Option Addr)(inp:List Int)(rs:List MX)(G:List Bool)(Cs:List (Bs × Nat)):Prop where
 con:∃a c,w.cell? ⟨b,o+1,none⟩=some (.slice a Cs.length c)/\kG w 122 a (Yr Cs)
 rul:∃a c,w.cell? ⟨b,o+2,none⟩=some (.slice a rs.length c)/\kG w 176 a (rs.flatMap nB)
 rows:∀x∈rs,mF w x
 gr:zD2 w b (o+3) G
 inp:qQ w ia inp
 few1:rs.length<=100
 few2:Cs.length<=100
def uq(b o:Nat)(iv:Value)(R C gA gH gV:Nat)(vv nv:Value):Obj:=.cells #[.pointer (some ⟨b,o,none⟩),iv,.slice (some ⟨gH,0,none⟩) C C,.slice (some ⟨gV,0,none⟩) C C,.slice (some ⟨gA,0,none⟩) R R,vv,nv] 315 (0,0)
structure ZJ(w wx:World)(b o:Nat)(iv:Value)(R C gH gV:Nat)(vv nv:Value):Prop where
 res:wx.heap[w.heap.size]? = some (.cells #[.slice none 0 0,.slice none 0 0] 163 (0,0))
 rA:tI wx (w.heap.size+1) 4 R (fun _=>.bool false)
 hd:wx.heap[w.heap.size+1+1]? = some (uq b o iv R C (w.heap.size+1) gH gV vv nv)
 rH:tI wx gH 4 C (fun _=>.bool false)
 rV:tI wx gV 3 C (fun _=>.int .i64 0)
 bel:Below w.heap.size w wx
 gh:w.heap.size+1+1<gH
 gv:w.heap.size+1+1<gV
 ne:gH≠gV
theorem YZ(w:World)(g n:Nat)(h:w.heap[g]? = some (.cells (gC (List.replicate n false)) 4 (0,0))):tI w g 4 n (fun _=>.bool false) :=
 ⟨_,h,fun j hj=>by simp[gC,hj]⟩
theorem DD(w:World)(g n:Nat)(h:w.heap[g]? = some (.cells (iC (List.replicate n 0)) 3 (0,0))):tI w g 3 n (fun _=>.int .i64 0) :=
 ⟨_,h,fun j hj=>by simp[iC,vR,hj]⟩
theorem tI.grown{w w':World}{g:Nat}{t e:TypeId}{n B k m:Nat}{f:Nat->Value}{v:Value}{ys:List Value}(h:tI w g t n f)(zG1:w.ownsRow B e k v m ys)(zG8:t≠e)(hg:w.grownBy w' v.ownBlock):tI w' g t n f:=by
 obtain⟨cs,h1,h2⟩:=h;refine⟨cs,?_,h2⟩;rw[hg.block g (yD h1) (fun e1=>?_)]
 ·exact h1
 ·rcases zG1.2 with ⟨k1,_⟩|⟨g',cap,yP,k1,_,k3,_⟩
  ·rw[k1]at e1;simp[Value.ownBlock]at e1
  ·rw[k1]at e1;simp[Value.ownBlock]at e1
   subst e1;rw[h1]at k3;simp only[Option.some.injEq,Obj.cells.injEq]at k3;exact zG8 k3.2.1
theorem Jf{w w':World}{g:Nat}{t e:TypeId}{B k m:Nat}{cs:Array Value}{v:Value}{ys:List Value}(h:w.heap[g]? = some (.cells cs t (0,0)))(zG1:w.ownsRow B e k v m ys)(zG8:t≠e)(hg:w.grownBy w' v.ownBlock):w'.heap[g]? = some (.cells cs t (0,0)):=by
 rw[hg.block g (yD h) (fun e1=>?_)]
 ·exact h
 ·rcases zG1.2 with ⟨k1,_⟩|⟨g',cap,yP,k1,_,k3,_⟩
  ·rw[k1]at e1;simp[Value.ownBlock]at e1
  ·rw[k1]at e1;simp[Value.ownBlock]at e1
   subst e1;rw[h]at k3;simp only[Option.some.injEq,Obj.cells.injEq]at k3;exact zG8 k3.2.1
theorem KF{w:World}{B k n:Nat}{t:TypeId}{v:Value}{xs:List Value}(h:w.ownsRow B t k v n xs)(hn:0<n):∃g c,v=.slice (some ⟨g,0,none⟩) n c/\B<=g/\tI w g t xs.length (fun j=>xs.getD j (.slice none 0 0)):=by
 have hl:=h.1;rcases h.2 with ⟨h1,h2⟩|⟨g,cap,yP,h1,hb,h3,h4,h5,_,h7⟩
 ·omega
 ·refine⟨g,cap,h1,hb,yP,h3,fun j hj=>?_⟩
  have e:yP[j]? = xs[j]? := by rw[<-h7,List.getElem?_take,if_pos (by rw[<-hl];exact hj),Array.getElem?_toList]
  rw[e];simp[List.getD,hj]
theorem ZJ.below{w wx wy:World}{b o R C gH gV:Nat}{iv vv nv:Value}(h:ZJ w wx b o iv R C gH gV vv nv)(hb:Below wx.heap.size wx wy):ZJ w wy b o iv R C gH gV vv nv :=
 ⟨by rw[hb.block _ (yD h.res)];exact h.res,h.rA.below hb,by rw[hb.block _ (yD h.hd)];exact h.hd,h.rH.below hb,h.rV.below hb,h.bel.trans (hb.mono h.bel.size),h.gh,h.gv,h.ne⟩
theorem ZJ.grown{w wx wy:World}{b o R C gH gV B k m:Nat}{e:TypeId}{iv vv nv v:Value}{ys:List Value}(h:ZJ w wx b o iv R C gH gV vv nv)(zG1:wx.ownsRow B e k v m ys)(hB:w.heap.size<=B)(n1:163≠e)(n2:4≠e)(n3:315≠e)(n4:3≠e)(hg:wx.grownBy wy v.ownBlock):ZJ w wy b o iv R C gH gV vv nv :=
 ⟨Jf h.res zG1 n1 hg,h.rA.grown zG1 n2 hg,by have:=h.hd;unfold uq at this ⊢;exact Jf this zG1 n3 hg,h.rH.grown zG1 n2 hg,h.rV.grown zG1 n4 hg,h.bel.grown hg h.bel.size (fun k hk=>Nat.le_trans hB (zZ zG1 k hk)),h.gh,h.gv,h.ne⟩
theorem ZJ.set5{w wx:World}{b o R C gH gV:Nat}{iv vv nv:Value}(h:ZJ w wx b o iv R C gH gV vv nv)(v:Value):ZJ w (wx.setCell ⟨w.heap.size+1+1,5,none⟩ v) b o iv R C gH gV v nv:=by
 have g1:=h.gh;have g2:=h.gv;refine⟨by rw[heap_setCell_other _ _ _ _ (by simp;omega)];exact h.res,h.rA.other _ (by omega),?_,h.rH.other _ (by omega),h.rV.other _ (by omega),h.bel.setCell (by simp;omega) _,h.gh,h.gv,h.ne⟩;have:=h.hd;unfold uq at this ⊢;rw[heap_setCell_same _ _ _ _ _ _ this];simp
theorem ZJ.set6{w wx:World}{b o R C gH gV:Nat}{iv vv nv:Value}(h:ZJ w wx b o iv R C gH gV vv nv)(v:Value):ZJ w (wx.setCell ⟨w.heap.size+1+1,6,none⟩ v) b o iv R C gH gV vv v:=by
 have g1:=h.gh;have g2:=h.gv;refine⟨by rw[heap_setCell_other _ _ _ _ (by simp;omega)];exact h.res,h.rA.other _ (by omega),?_,h.rH.other _ (by omega),h.rV.other _ (by omega),h.bel.setCell (by simp;omega) _,h.gh,h.gv,h.ne⟩;have:=h.hd;unfold uq at this ⊢;rw[heap_setCell_same _ _ _ _ _ _ this];simp
theorem ZJ.fresh{w w3 w4:World}{b o R C gH gV:Nat}{iv:Value}(x0:w3.heap[w.heap.size]? = some (Obj.cells #[Value.slice none 0 0,Value.slice none 0 0] 163))(x1:w3.heap[w.heap.size+1]? = some (Obj.cells (gC (List.replicate R false)) 4))
 (x2:w3.heap[w.heap.size+1+1]? = some (Obj.cells #[Value.pointer (some ⟨b,o,none⟩),Value.slice none 0 0,Value.slice none 0 0,Value.slice none 0 0,Value.slice (some ⟨w.heap.size+1,0,none⟩) R R,Value.slice none 0 0,Value.slice none 0 0] 315)) (hB:Below w.heap.size w w3) (h4:Below w3.heap.size w3 w4)
 (yH:w4.heap[gH]? = some (Obj.cells (gC (List.replicate C false)) 4)) (yV:w4.heap[gV]? = some (Obj.cells (iC (List.replicate C 0)) 3)) (g1:w.heap.size+1+1<gH) (g2:w.heap.size+1+1<gV) (zG8:gH≠gV) :
 ZJ w (((w4.setCell ⟨w.heap.size+1+1,1,none⟩ iv).setCell ⟨w.heap.size+1+1,2,none⟩ (.slice (some ⟨gH,0,none⟩) C C)).setCell ⟨w.heap.size+1+1,3,none⟩ (.slice (some ⟨gV,0,none⟩) C C)).drew b o iv R C gH gV (.slice none 0 0) (.slice none 0 0):=by
 have y0:w4.heap[w.heap.size]? = _:=(h4.block _ (yD x0)).trans x0;have y1:w4.heap[w.heap.size+1]? = _:=(h4.block _ (yD x1)).trans x1;have y2:w4.heap[w.heap.size+1+1]? = _:=(h4.block _ (yD x2)).trans x2
 have ot:∀(k:Nat),k≠w.heap.size+1+1->(((w4.setCell ⟨w.heap.size+1+1,1,none⟩ iv).setCell ⟨w.heap.size+1+1,2,none⟩ (.slice (some ⟨gH,0,none⟩) C C)).setCell ⟨w.heap.size+1+1,3,none⟩ (.slice (some ⟨gV,0,none⟩) C C)).drew.heap[k]? = w4.heap[k]? := fun k hk=>by
  show (((w4.setCell _ _).setCell _ _).setCell _ _).heap[k]? = _;rw[heap_setCell_other _ _ _ _ (by simpa using hk),heap_setCell_other _ _ _ _ (by simpa using hk),heap_setCell_other _ _ _ _ (by simpa using hk)]
 have hB4:Below w.heap.size w w4:=hB.trans (h4.mono hB.size);refine⟨by rw[ot _ (by omega)];exact y0,YZ _ _ _ (by rw[ot _ (by omega)];exact y1),?_,YZ _ _ _ (by rw[ot _ (by omega)];exact yH),DD _ _ _ (by rw[ot _ (by omega)];exact yV),(((hB4.setCell (by simp;omega) _).setCell (by simp;omega) _).setCell (by simp;omega) _).drew,g1,g2,zG8⟩;unfold uq;show (((w4.setCell _ _).setCell _ _).setCell _ _).heap[w.heap.size+1+1]? = _;have z1:=heap_setCell_same w4 _ 1 _ _ iv y2;have z2:=heap_setCell_same _ _ 2 _ _ (.slice (some ⟨gH,0,none⟩) C C) z1;have z3:=heap_setCell_same _ _ 3 _ _ (.slice (some ⟨gV,0,none⟩) C C) z2;rw[z3];simp
theorem bW{w:World}{g g':Nat}{cs cs':Array Value}{t t':TypeId}{fz fz':Nat × Nat}(h:w.heap[g]? = some (.cells cs t fz))(h':w.heap[g']? = some (.cells cs' t' fz'))(zG8:t≠t'):g≠g':=fun e=>by
 subst e;rw[h]at h';simp only[Option.some.injEq,Obj.cells.injEq]at h';exact zG8 h'.2.1
theorem tI.ne{w:World}{g g' n n':Nat}{t t':TypeId}{f f':Nat->Value}(h:tI w g t n f)(h':tI w g' t' n' f')(zG8:t≠t'):g≠g':=by
 obtain⟨_,h1,_⟩:=h;obtain⟨_,h2,_⟩:=h';exact bW h1 h2 zG8
theorem Z0{w:World}{B k n b j:Nat}{e t:TypeId}{v u:Value}{xs:List Value}{cs:Array Value}(h:w.ownsRow B e k v n xs)(hb:w.heap[b]? = some (.cells cs t (0,0)))(zG8:t≠e):(w.setCell ⟨b,j,none⟩ u).ownsRow B e k v n xs:=by
 refine⟨h.1,?_⟩;rcases h.2 with h1|⟨g,cap,yP,h1,h2,h3,h4⟩
 ·exact .inl h1
 ·refine .inr ⟨g,cap,yP,h1,h2,?_,h4⟩
  rw[heap_setCell_other _ _ _ _ (show g≠b from (bW hb h3 zG8).symm)];exact h3
def Ds(rs:List MX)(i:Nat):List Value:=(List.range i).flatMap fun r=>[.string ⟨(tK rs r).1.label.toArray⟩,.int .i64 0]
def kg(Cs:List (Bs × Nat))(i:Nat):List Value:=(List.range i).flatMap fun c=>[.string ⟨(Cs.getD c ([],0)).1.toArray⟩,.int .i64 0,.int .i64 0]
theorem GJ(rs:List MX)(i:Nat):Ds rs (i+1)=Ds rs i++[.string ⟨(tK rs i).1.label.toArray⟩,.int .i64 0]:=by unfold Ds;rw[List.range_succ,List.flatMap_append];simp
theorem kf(Cs:List (Bs × Nat))(i:Nat):kg Cs (i+1)=kg Cs i++[.string ⟨(Cs.getD i ([],0)).1.toArray⟩,.int .i64 0,.int .i64 0]:=by unfold kg;rw[List.range_succ,List.flatMap_append];simp
theorem fB(n i:Nat)(h:i<n):(List.range n).getD i 0=i:=by simp[List.getD,h]
theorem jq(rs:List MX)(n j:Nat)(hj:j<2*n):(Ds rs n)[j]? = some (if j%2=0 then .string ⟨(tK rs (j/2)).1.label.toArray⟩ else .int .i64 0):=by
 have h:=yO (fun r=>[Value.string ⟨(tK rs r).1.label.toArray⟩,.int .i64 0]) 2 (fun _=>rfl) 0 (List.range n) (j/2) (j%2) (by simp;omega) (by omega);rw[show j/2*2+j%2=j by omega,fB n (j/2) (by omega)]at h;unfold Ds;rw[h];by_cases h0:j%2=0
 ·rw[h0];rfl
 ·rw[show j%2=1 by omega];rfl
theorem zC6(Cs:List (Bs × Nat))(n j:Nat)(hj:j<3*n):(kg Cs n)[j]? = some (if j%3=0 then .string ⟨(Cs.getD (j/3) ([],0)).1.toArray⟩ else .int .i64 0):=by
 have h:=yO (fun c=>[Value.string ⟨(Cs.getD c ([],0)).1.toArray⟩,.int .i64 0,.int .i64 0]) 3 (fun _=>rfl) 0 (List.range n) (j/3) (j%3) (by simp;omega) (by omega);rw[show j/3*3+j%3=j by omega,fB n (j/3) (by omega)]at h;unfold kg;rw[h];by_cases h0:j%3=0
 ·rw[h0];rfl
 ·rw[if_neg h0]
  by_cases h1:j%3=1
  ·rw[h1];rfl
  ·rw[show j%3=2 by omega];rfl
theorem jp(rs:List MX)(n:Nat):(Ds rs n).length=2*n:=by unfold Ds;rw[nZ _ 2 (fun _=>rfl)];simp;omega
theorem zC5(Cs:List (Bs × Nat))(n:Nat):(kg Cs n).length=3*n:=by unfold kg;rw[nZ _ 3 (fun _=>rfl)];simp;omega
theorem uc:(Tryz.prog.info? 124).map (fun i=>(i.zero,i.size,i.bytes))=some (some (.agg #[.string ⟨#[]⟩,.int .i64 0]),2,24):=by kernel_rfl
theorem ul:(Tryz.prog.info? 126).map (fun i=>(i.zero,i.size,i.bytes))=some (some (.agg #[.string ⟨#[]⟩,.int .i64 0,.int .i64 0]),3,32):=by kernel_rfl
theorem Vo:(Tryz.prog.info? 163).map (·.size)=some 2:=by kernel_rfl
def zEW(A:mG)(rs:List MX)(Cs:List (Bs × Nat))(w w':World)(e:Ending):Prop:=∃K:HK,(∀r,K.lab r=(tK rs r).1.label)/\(∀c,K.nam c=(Cs.getD c ([],0)).1)/\K.R=rs.length/\K.C=Cs.length/\e=.returned (.agg #[.slice (some ⟨K.gD,0,none⟩) K.R K.cD,.slice (some ⟨K.gN,0,none⟩) K.C K.cN])/\xU w' K (uH A Cs.length Cs.length 0 h0)/\Below w.heap.size w w'
theorem ZJ.hear{w wx:World}{b o:Nat}{ia:Option Addr}{ic:Nat}{inp:List Int}{rs:List MX}{Cs:List (Bs × Nat)}{gH gV:Nat}{vv nv:Value}(h:ZJ w wx b o (.slice ia inp.length ic) rs.length Cs.length gH gV vv nv)(hv:wx.ownsRow w.heap.size 124 2 vv rs.length (Ds rs rs.length))(hn:wx.ownsRow w.heap.size 126 3 nv Cs.length (kg Cs Cs.length))(hR:0<rs.length)(hC:0<Cs.length)(f1:rs.length<=100)(f2:Cs.length<=100) :
 ∃gD cD gN cN,vv=.slice (some ⟨gD,0,none⟩) rs.length cD/\nv=.slice (some ⟨gN,0,none⟩) Cs.length cN/\w.heap.size<=gD/\w.heap.size<=gN/\xU wx ⟨w.heap.size+1+1,b,o,ia,ic,inp,rs.length,Cs.length,gH,Cs.length,gV,Cs.length,w.heap.size+1,rs.length,gD,cD,gN,cN,fun r=>(tK rs r).1.label,fun c=>(Cs.getD c ([],0)).1⟩ h0:=by
 obtain⟨gD,cD,rfl,hgD,rD⟩:=KF hv hR;obtain⟨gN,cN,rfl,hgN,rN⟩:=KF hn hC;have g1:=h.gh;have g2:=h.gv;have hd:=h.hd;unfold uq at hd;obtain⟨_,kA,_⟩:=h.rA;obtain⟨_,kH,_⟩:=h.rH;obtain⟨_,kV,_⟩:=h.rV;obtain⟨cD',kD,kD2⟩:=rD;obtain⟨cN',kN,kN2⟩:=rN;refine⟨gD,cD,gN,cN,rfl,rfl,hgD,hgN,⟨h.hd,h.rH,h.rV,h.rA,⟨cD',kD,fun j hj=>?_⟩,⟨cN',kN,fun j hj=>?_⟩,?_,f1,f2⟩⟩
 ·have hj':j<2*rs.length:=hj
  have e:=kD2 j (by rw[jp];exact hj');simp only[List.getD_eq_getElem?_getD]at e;rw[e,jq rs _ j hj'];rfl
 ·have hj':j<3*Cs.length:=hj
  have e:=kN2 j (by rw[zC5];exact hj');simp only[List.getD_eq_getElem?_getD]at e;rw[e,zC6 Cs _ j hj'];show some (if j%3=0 then _ else _)=some (ki _ h0 j);unfold ki;by_cases h0':j%3=0
  ·rw[if_pos h0',if_pos h0']
  ·rw[if_neg h0',if_neg h0'];split <;> rfl
 ·simp only[List.nodup_cons,List.mem_cons,List.not_mem_nil,or_false,not_or,List.nodup_nil,not_false_eq_true,and_true]
  exact⟨⟨by omega,by omega,by omega,bW hd kD (by decide),bW hd kN (by decide)⟩,⟨h.ne,by omega,bW kH kD (by decide),bW kH kN (by decide)⟩,⟨by omega,bW kV kD (by decide),bW kV kN (by decide)⟩,⟨bW kA kD (by decide),bW kA kN (by decide)⟩,bW kD kN (by decide)⟩
theorem xU.outer{w:World}{K:HK}{s:uE}(h:xU w K s){g j:Nat}(v:Value)(n0:K.hb≠g)(n1:K.gH≠g)(n2:K.gV≠g)(n3:K.gA≠g)(n4:K.gD≠g)(n5:K.gN≠g):xU (w.setCell ⟨g,j,none⟩ v) K s :=
 ⟨by rw[heap_setCell_other w ⟨g,j,none⟩ K.hb _ n0];exact h.hd,h.rH.other _ n1,h.rV.other _ n2,h.rA.other _ n3,h.rD.other _ n4,h.rN.other _ n5,h.ne,h.few1,h.few2⟩
theorem ZJ.base{w wx:World}{b o R C gH gV:Nat}{iv vv nv:Value}(h:ZJ w wx b o iv R C gH gV vv nv):Below (w.alloc (.cells #[.slice none 0 0,.slice none 0 0] 163 (0,0))).heap.size (w.alloc (.cells #[.slice none 0 0,.slice none 0 0] 163 (0,0))) wx:=by
 have hs:=yD h.res;refine⟨h.bel.os,h.bel.tape,h.bel.output,by simp;omega,fun k hk=>?_⟩;rcases Nat.lt_or_ge k w.heap.size with h1|h1
 ·rw[Below.heap_alloc _ _ _ h1];exact h.bel.block k h1
 ·obtain rfl:k=w.heap.size:=by simp at hk;omega
  rw[h.res];exact(zS _ _).symm
theorem B4(A:mG)(H l i f:Nat)(s:uE):cW A H l (f+1) i s=cW A H l f (i+1) (if A.lev i=l then uP A i s else s):=rfl
theorem Va(A:mG)(H l f:Nat)(s:uE):uH A H (f+1) l s=uH A H f (l+1) (cW A H l H 0 s):=rfl
theorem zAG(A:mG)(H l i:Nat)(hn:∀r c,r<A.n->A.nm r c->c<H)(hi:i<H){s:uE}(h:tJ A (fun x=>x<H/\(A.lev x<l\/A.lev x=l/\x<i)) s):tJ A (fun x=>x<H/\(A.lev x<l\/A.lev x=l/\x<i+1)) (if A.lev i=l then uP A i s else s):=by
 by_cases hl:A.lev i=l
 ·rw[if_pos hl]
  refine(Q4 A h (c:=i) (by omega) (fun c' hc' ⟨r,hr,hm⟩=>⟨hn r c' hr hm,.inl (by omega)⟩)).same fun x=>?_;constructor
  ·rintro(hx|rfl)
   ·omega
   ·omega
  ·intro hx
   by_cases he:x=i
   ·exact .inr he
   ·exact .inl ⟨hx.1,by rcases hx.2 with h1|h1 <;> omega⟩
 ·rw[if_neg hl]
  refine h.same fun x=>?_;constructor
  ·intro hx;omega
  ·intro hx
   refine⟨hx.1,?_⟩;rcases hx.2 with h1|h1
   ·exact .inl h1
   ·right
    refine⟨h1.1,?_⟩;rcases Nat.lt_or_ge x i with h2|h2
    ·exact h2
    ·exfalso;obtain rfl:x=i:=by omega
     exact hl h1.1
theorem Of_s(w:World)(b o:Nat)(ia:Option Addr)(ic:Nat)(inp:List Int)(rs:List MX)(G:List Bool)(Cs:List (Bs × Nat))(h:zFW w b o ia inp rs G Cs)(hR:0<rs.length)(hC:0<Cs.length)(A:mG)(hA:∀K:HK,K.R=rs.length->K.C=Cs.length->K.inp=inp->Dk K A rs G)(hlev:∀c,c<Cs.length->A.lev c=(Cs.getD c ([],0)).2)(hnm:∀r c,r<A.n->A.nm r c->c<Cs.length)(zGG:∀S s,tJ A S s->∀r,r<rs.length->Zt ⟨inp,(List.range Cs.length).map s.has,(List.range Cs.length).map s.val⟩ (tK rs r).1.sum) :
 Calls Tryz.prog 113 #[.pointer (some ⟨b,o,none⟩),.slice ia inp.length ic] w fun e w'=>zEW A rs Cs w w' e:=by
 obtain⟨i0,hi0,hz0,hz1,hz2⟩:=info_parts uc;obtain⟨j0,hj0,hy0,hy1,hy2⟩:=info_parts ul;obtain⟨ca,cc,hc0,hc1⟩:=h.con;obtain⟨ra,rc,hr0,hr1⟩:=h.rul;have hf1:=h.few1;have hf2:=h.few2;have hbl:=xJ hc0;have nb:w.heap.size≠b:=by omega
 have HMd:Hid (∀wr,Below w.heap.size w wr->Kg wr ⟨0,b,o,ia,ic,inp,rs.length,Cs.length,0,0,0,0,0,0,0,0,0,0,fun _=>[],fun _=>[]⟩ rs G):=fun wr hb=>(Kg.mk (w:=w) (K:=⟨0,b,o,ia,ic,inp,rs.length,Cs.length,0,0,0,0,0,0,0,0,0,0,fun _=>[],fun _=>[]⟩) ⟨ra,rc,hr0,hr1⟩ h.rows h.gr h.inp rfl).below hb;have HMk:Hid (∀K:HK,K.b=b->K.o=o->K.ia=ia->K.inp=inp->K.R=rs.length->Kg w K rs G):=fun K e1 e2 e3 e4 e5=>⟨⟨ra,rc,by rw[e1,e2];exact hr0,hr1⟩,h.rows,by rw[e1,e2];exact h.gr,by rw[e3,e4];exact h.inp,e5.symm⟩;have HCr:Hid (∀wr,Below w.heap.size w wr->wr.cell? ⟨b,o+2,none⟩=some (.slice ra rs.length rc)/\wr.cell? ⟨b,o+1,none⟩=some (.slice ca Cs.length cc)):=fun wr hb=>⟨by rw[hb.cell (p:=⟨b,o+2,none⟩) (xJ hr0)];exact hr0,by rw[hb.cell (p:=⟨b,o+1,none⟩) (xJ hc0)];exact hc0⟩;have HRul:Hid (∀wr,Below w.heap.size w wr->∀i,i<rs.length->∃g,ra=some ⟨g,0,none⟩/\(wr.cell? ⟨g,i*5,none⟩=some (.string ⟨(tK rs i).1.label.toArray⟩)/\wr.cell? ⟨g,i*5+1,none⟩=some (.int .i64 (tK rs i).1.conc)/\wr.cell? ⟨g,i*5+2,none⟩=some (tK rs i).2.1/\wr.cell? ⟨g,i*5+3,none⟩=some (tK rs i).2.2/\wr.cell? ⟨g,i*5+4,none⟩=some (.int .i64 (tK rs i).1.root))/\mF wr (tK rs i)):=fun wr hb i hi=>(HMd.out wr hb).rule ((HCr.out wr hb).1) hi
 have HCon:Hid (∀wr,Below w.heap.size w wr->∀i,i<Cs.length->∃g,ca=some ⟨g,0,none⟩/\wr.cell? ⟨g,i*2,none⟩=some (.string ⟨(Cs.getD i ([],0)).1.toArray⟩)/\wr.cell? ⟨g,i*2+1,none⟩=some (.int .i64 ((Cs.getD i ([],0)).2:Nat))):=fun wr hb i hi=>by
  obtain⟨p1,p2⟩:=JH Cs i hi;obtain⟨g,e,q1⟩:=(hc1.below hb).cel.at p1;obtain⟨g',e',q2⟩:=(hc1.below hb).cel.at p2;subst e;obtain rfl:g=g':=by simpa using e'
  exact⟨g,rfl,q1,q2⟩
 have HA:=zA hA;have HLev:=zA hlev;have HNm:=zA hnm;have HOk:=zA zGG;clear HMd hA hlev hnm zGG h;have HRs:Hid (∀ {wx:World} {gH gV:Nat} {vv nv:Value},ZJ w wx b o (.slice ia inp.length ic) rs.length Cs.length gH gV vv nv->wx.ownsRow w.heap.size 124 2 vv rs.length (Ds rs rs.length)->wx.ownsRow w.heap.size 126 3 nv Cs.length (kg Cs Cs.length)->∃gD cD gN cN,vv=.slice (some ⟨gD,0,none⟩) rs.length cD/\nv=.slice (some ⟨gN,0,none⟩) Cs.length cN/\w.heap.size<=gD/\w.heap.size<=gN/\xU wx ⟨w.heap.size+1+1,b,o,ia,ic,inp,rs.length,Cs.length,gH,Cs.length,gV,Cs.length,w.heap.size+1,rs.length,gD,cD,gN,cN,fun r=>(tK rs r).1.label,fun c=>(Cs.getD c ([],0)).1⟩ h0):=fun h hv hn=>h.hear hv hn hR hC hf1 hf2;generalize hRn:rs.length=R at *;generalize hCn:Cs.length=C at *;have hmA:=run_make_row' (P:=Tryz.prog) 180 4 (.bool false) 1 Tryz.underlying180 mA rfl .i64 .i64 R (by omega) (by omega);have hmH:=run_make_row' (P:=Tryz.prog) 180 4 (.bool false) 1 Tryz.underlying180 mA rfl .i64 .i64 C (by omega) (by omega);have hmV:=run_make_row' (P:=Tryz.prog) 59 3 (.int .i64 0) 8 Tryz.underlying59 mX rfl .i64 .i64 C (by omega) (by omega);rw[tV]at hmA hmH;rw[dR]at hmV;clear hc1 hr1
 go_enter Tryz.func113,Tryz.ntmps113
 go_upto_region 3 with fail
 obtain⟨w3,hw3⟩:∃w3,w3=((w.alloc (Obj.cells #[Value.slice none 0 0,Value.slice none 0 0] 163)).alloc (Obj.cells (gC (List.replicate R false)) 4)).alloc (Obj.cells #[Value.pointer (some ⟨b,o,none⟩),Value.slice none 0 0,Value.slice none 0 0,Value.slice none 0 0,Value.slice (some ⟨w.heap.size+1,0,none⟩) R R,Value.slice none 0 0,Value.slice none 0 0] 315):=⟨_,rfl⟩;rw[<-hw3];have x0:w3.heap[w.heap.size]? = some (Obj.cells #[Value.slice none 0 0,Value.slice none 0 0] 163):=by rw[hw3];exact zQ (zQ (zS _ _))
 have x1:w3.heap[w.heap.size+1]? = some (Obj.cells (gC (List.replicate R false)) 4):=by rw[hw3];exact zQ (uZ _ _ _ (by simp))
 have x2:w3.heap[w.heap.size+1+1]? = some (Obj.cells #[Value.pointer (some ⟨b,o,none⟩),Value.slice none 0 0,Value.slice none 0 0,Value.slice none 0 0,Value.slice (some ⟨w.heap.size+1,0,none⟩) R R,Value.slice none 0 0,Value.slice none 0 0] 315):=by rw[hw3];exact uZ _ _ _ (by simp)
 have hs3:w3.heap.size=w.heap.size+1+1+1:=by rw[hw3];simp
 have HB3:Hid (Below w.heap.size w w3):=by unfold Hid;rw[hw3];exact(((Below.refl _ _).alloc (Nat.le_refl _) _).alloc (by simp) _).alloc (by simp;omega) _
 have l2:w.heap.size+1+1<w3.heap.size:=by omega
 have HQ:Hid (∀A B:Obj,((w3.alloc A).alloc B).heap[w.heap.size+1+1]? = some (Obj.cells #[Value.pointer (some ⟨b,o,none⟩),Value.slice none 0 0,Value.slice none 0 0,Value.slice none 0 0,Value.slice (some ⟨w.heap.size+1,0,none⟩) R R,Value.slice none 0 0,Value.slice none 0 0] 315)):=fun A B=>zQ (zQ x2);have f21:∀A B:Obj,((w3.alloc A).alloc B).frozen? ⟨w.heap.size+1+1,1,none⟩=false:=fun A B=>by simp[World.frozen?,HQ.out A B]
 have f22:∀A B:Obj,((w3.alloc A).alloc B).frozen? ⟨w.heap.size+1+1,2,none⟩=false:=fun A B=>by simp[World.frozen?,HQ.out A B]
 have f23:∀A B:Obj,((w3.alloc A).alloc B).frozen? ⟨w.heap.size+1+1,3,none⟩=false:=fun A B=>by simp[World.frozen?,HQ.out A B]
 have c21:∀A B:Obj,((w3.alloc A).alloc B).cell? ⟨w.heap.size+1+1,1,none⟩=some (.slice none 0 0):=fun A B=>(zF (HQ.out A B) 1).trans rfl;have c22:∀A B:Obj,((w3.alloc A).alloc B).cell? ⟨w.heap.size+1+1,2,none⟩=some (.slice none 0 0):=fun A B=>(zF (HQ.out A B) 2).trans rfl;have c23:∀A B:Obj,((w3.alloc A).alloc B).cell? ⟨w.heap.size+1+1,3,none⟩=some (.slice none 0 0):=fun A B=>(zF (HQ.out A B) 3).trans rfl;clear hw3 hs3;have HX0:=zA x0;have HX1:=zA x1;have HX2:=zA x2
 go_cut [6] from 27 to 97 (fun v6 wx=>v6=.pointer (some ⟨w.heap.size+1+1,0,none⟩)/\∃gH gV,Hid (ZJ w wx b o (.slice ia inp.length ic) R C gH gV (.slice none 0 0) (.slice none 0 0)))
 case first =>
  go_region
  all_goals
   go_wp2_with fail
   go_meet
  ·exact⟨rfl,w3.heap.size,w3.heap.size+1,zA (ZJ.fresh HX0.out HX1.out HX2.out HB3.out (((Below.refl _ _).alloc (Nat.le_refl _) _).alloc (by simp) _) (zQ (zS _ _)) (uZ _ _ _ (by simp)) (by omega) (by omega) (by omega))⟩
  ·exact⟨rfl,w3.heap.size+1,w3.heap.size,zA (ZJ.fresh HX0.out HX1.out HX2.out HB3.out (((Below.refl _ _).alloc (Nat.le_refl _) _).alloc (by simp) _) (uZ _ _ _ (by simp)) (zQ (zS _ _)) (by omega) (by omega) (by omega))⟩
 case rest =>
  obtain⟨rfl,gH,gV,HS⟩:=hcut;clear HX0 HX1 HX2 HB3 x0 x1 x2 l2 HQ f21 f22 f23 c21 c22 c23 hmA hmH hmV;obtain⟨m1,m2⟩:=HCr.out wc HS.out.bel;go_wp2_with fail
  go_loopw [39] (fun iv wr=>∃(i:Nat) (vv:Value),i<=R/\iv=.int .i64 i/\Hid (ZJ w wr b o (.slice ia inp.length ic) R C gH gV vv (.slice none 0 0))/\Hid (wr.ownsRow w.heap.size 124 2 vv i (Ds rs i))) (fun iv _=>R-(intOf iv).toNat)
  case atStart=>exact⟨0,_,Nat.zero_le _,rfl,HS,zA (World.ownsRow_nil _ _ _ _)⟩
  case round =>
   obtain⟨i,vv,hi,rfl,HSr,HOv⟩:=hrel;by_cases zFZ:i<R
   ·obtain⟨g,rfl,⟨r0,r1,r2,r3,r4⟩,hmr⟩:=HRul.out wr HSr.out.bel i zFZ
    obtain⟨sa,sc,e1,-⟩:=hmr.sum;obtain⟨na,nc,e2,-⟩:=hmr.guard;rw[e1]at r2;rw[e2]at r3;have hltI:(i:Int)<(R:Int):=by omega
    have HVs:=zA (GJ rs i);have lg:=xJ r0;have hd:=HSr.out.hd;unfold uq at hd;have d5:wr.cell? ⟨w.heap.size+1+1,5,none⟩=some vv:=(zF hd 5).trans rfl;have lhb:=xJ d5;have nhb:wr.heap.size≠w.heap.size+1+1:=by omega
    have zG9:=HSr.out.bel.size;obtain⟨va,vc,rfl,-⟩:=jG HOv.out;clear hmr e1 e2 hd;generalize (tK rs i).1.label=lb at *;generalize (tK rs i).1.conc=cn at *;generalize (tK rs i).1.sum.length=sn at *;generalize (tK rs i).1.guard.length=nn at *;generalize (tK rs i).1.root=ro at *
    go_wp2_with (at_builtin;refine wpList_append_own _ rfl _ _ 30 rfl w.heap.size 124 i0 _ 2 24 Tryz.underlying30 hi0 hz0 hz1 hz2 rfl (by decide) _ _ _ rfl ((HOv.out.alloc _).alloc _) ⟨wr.heap.size+1,0,none⟩ 1 1 [.string ⟨lb.toArray⟩,.int .i64 0] rfl rfl ?c1 ?c2 ?c3 ?c4 ?c5 ?_)
    case c1=>exact uG _ _ _ _ rfl (by simp)
    case c2=>simp[Value.oneCell']
    case c3=>unfold maxLen;omega
    case c4=>omega
    case c5=>simp;omega
    intro v' w2 zG3 zG7 _;have hS2:=(HSr.out.below (((Below.refl _ _).alloc (Nat.le_refl _) _).alloc (by simp) _)).grown ((HOv.out.alloc _).alloc _) (Nat.le_refl _) (by decide) (by decide) (by decide) (by decide) zG7;obtain⟨va',vc',rfl,-⟩:=jG zG3;have hd2:=hS2.hd;unfold uq at hd2;have HO2:Hid ((w2.setCell ⟨w.heap.size+1+1,5,none⟩ (.slice va' (i+1) vc')).ownsRow w.heap.size 124 2 (.slice va' (i+1) vc') (i+1) (Ds rs (i+1))):=by unfold Hid;rw[HVs.out];exact Z0 zG3 hd2 (by decide)
    have HS2:=zA (hS2.set5 (.slice va' (i+1) vc'));have d52:w2.cell? ⟨w.heap.size+1+1,5,none⟩=some (.slice va i vc):=(zF hd2 5).trans rfl;have f52:w2.frozen? ⟨w.heap.size+1+1,5,none⟩=false:=by simp[World.frozen?,hd2]
    clear zG3 zG7 hS2 hd2 HVs;go_wp2_with fail
    go_roundw
    case rel=>exact⟨i+1,_,by omega,by go_num,HS2,HO2⟩
    case measure=>simp[intOf];omega
   ·obtain rfl:R=i:=by omega
    have hiN:¬((R:Int)<(R:Int)):=by omega
    obtain⟨w7,hw7⟩:∃w7,w7=wr:=⟨_,rfl⟩;rw[<-hw7]at HSr HOv ⊢;clear hw7;obtain⟨q1,q2⟩:=HCr.out w7 HSr.out.bel;go_wp2_with fail
    go_loopw [59] (fun iv wr=>∃(i:Nat) (nv:Value),i<=C/\iv=.int .i64 i/\Hid (ZJ w wr b o (.slice ia inp.length ic) R C gH gV vv nv)/\Hid (wr.ownsRow w.heap.size 124 2 vv R (Ds rs R))/\Hid (wr.ownsRow w.heap.size 126 3 nv i (kg Cs i))) (fun iv _=>C-(intOf iv).toNat)
    case atStart=>exact⟨0,_,Nat.zero_le _,rfl,HSr,HOv,zA (World.ownsRow_nil _ _ _ _)⟩
    case round =>
     obtain⟨i,nv,hi,rfl,HSs,HOs,HOn⟩:=hrel;by_cases zFZ:i<C
     ·obtain⟨g,rfl,r0,r1⟩:=HCon.out wr HSs.out.bel i zFZ
      have hltI:(i:Int)<(C:Int):=by omega
      have HVs:=zA (kf Cs i);have lg:=xJ r0;have hd:=HSs.out.hd;unfold uq at hd;have d6:wr.cell? ⟨w.heap.size+1+1,6,none⟩=some nv:=(zF hd 6).trans rfl;have lhb:=xJ d6;have nhb:wr.heap.size≠w.heap.size+1+1:=by omega
      have zG9:=HSs.out.bel.size;obtain⟨va,vc,rfl,-⟩:=jG HOn.out;clear hd;generalize (Cs.getD i ([],0)).1=lb at *;generalize (Cs.getD i ([],0)).2=lv at *
      go_wp2_with (at_builtin;refine wpList_append_own _ rfl _ _ 34 rfl w.heap.size 126 j0 _ 3 32 Tryz.underlying34 hj0 hy0 hy1 hy2 rfl (by decide) _ _ _ rfl ((HOn.out.alloc _).alloc _) ⟨wr.heap.size+1,0,none⟩ 1 1 [.string ⟨lb.toArray⟩,.int .i64 0,.int .i64 0] rfl rfl ?c1 ?c2 ?c3 ?c4 ?c5 ?_)
      case c1=>exact uG _ _ _ _ rfl (by simp)
      case c2=>simp[Value.oneCell']
      case c3=>unfold maxLen;omega
      case c4=>omega
      case c5=>simp;omega
      intro v' w2 zG3 zG7 _;have hS2:=(HSs.out.below (((Below.refl _ _).alloc (Nat.le_refl _) _).alloc (by simp) _)).grown ((HOn.out.alloc _).alloc _) (Nat.le_refl _) (by decide) (by decide) (by decide) (by decide) zG7;have hv2:=iD ((HOs.out.alloc _).alloc _) ((HOn.out.alloc _).alloc _) (by decide) zG7;obtain⟨va',vc',rfl,-⟩:=jG zG3;have hd2:=hS2.hd;unfold uq at hd2;have HO2:Hid ((w2.setCell ⟨w.heap.size+1+1,6,none⟩ (.slice va' (i+1) vc')).ownsRow w.heap.size 126 3 (.slice va' (i+1) vc') (i+1) (kg Cs (i+1))):=by unfold Hid;rw[HVs.out];exact Z0 zG3 hd2 (by decide)
      have HV2:Hid ((w2.setCell ⟨w.heap.size+1+1,6,none⟩ (.slice va' (i+1) vc')).ownsRow w.heap.size 124 2 vv R (Ds rs R)):=Z0 hv2 hd2 (by decide);have HS2:=zA (hS2.set6 (.slice va' (i+1) vc'));have d62:w2.cell? ⟨w.heap.size+1+1,6,none⟩=some (.slice va i vc):=(zF hd2 6).trans rfl;have f62:w2.frozen? ⟨w.heap.size+1+1,6,none⟩=false:=by simp[World.frozen?,hd2]
      clear zG3 zG7 hS2 hd2 HVs hv2;go_wp2_with fail
      go_roundw
      case rel=>exact⟨i+1,_,by omega,by go_num,HS2,HV2,HO2⟩
      case measure=>simp[intOf];omega
     ·obtain rfl:C=i:=by omega
      have hiN2:¬((C:Int)<(C:Int)):=by omega
      obtain⟨w8,hw8⟩:∃w8,w8=wr:=⟨_,rfl⟩;rw[<-hw8]at HSs HOs HOn ⊢;clear hw8 HSr HOv;obtain⟨gD,cD,gN,cN,rfl,rfl,hgD,hgN,hM⟩:=HRs.out HSs.out HOs.out HOn.out;have HBa:=zA HSs.out.base;have hgh:=HSs.out.gh;have hgv:=HSs.out.gv
      have hgD1:w.heap.size+1<=gD:=by
       obtain⟨_,kD,_⟩:=hM.rD;have:w.heap.size≠gD:=bW HSs.out.res kD (by decide);omega
      have hgN1:w.heap.size+1<=gN:=by
       obtain⟨_,kN,_⟩:=hM.rN;have:w.heap.size≠gN:=bW HSs.out.res kN (by decide);omega
      generalize hKK:(⟨w.heap.size+1+1,b,o,ia,ic,inp,R,C,gH,C,gV,C,w.heap.size+1,R,gD,cD,gN,cN,fun r=>(tK rs r).1.label,fun c=>(Cs.getD c ([],0)).1⟩:HK)=K at hM;have KE:Hid (K.hb=w.heap.size+1+1/\K.R=R/\K.C=C/\K.gD=gD/\K.cD=cD/\K.gN=gN/\K.cN=cN/\K.gH=gH/\K.gV=gV/\K.gA=w.heap.size+1/\K.b=b/\K.o=o/\K.ia=ia/\K.inp=inp/\(∀r,K.lab r=(tK rs r).1.label)/\(∀c,K.nam c=(Cs.getD c ([],0)).1)):=by rw[<-hKK];exact⟨rfl,rfl,rfl,rfl,rfl,rfl,rfl,rfl,rfl,rfl,rfl,rfl,rfl,rfl,fun _=>rfl,fun _=>rfl⟩
      have HM0:=zA hM;obtain⟨w1,hw1⟩:∃w1,w1=w.alloc (.cells #[.slice none 0 0,.slice none 0 0] 163 (0,0)):=⟨_,rfl⟩;have hs1:w1.heap.size=w.heap.size+1:=by rw[hw1];simp
      have HB01:Hid (Below w.heap.size w w1):=by unfold Hid;rw[hw1];exact(Below.refl _ _).alloc (Nat.le_refl _) _
      have HR1:Hid (w1.heap[w.heap.size]? = some (.cells #[.slice none 0 0,.slice none 0 0] 163 (0,0))):=by unfold Hid;rw[hw1];exact zS _ _
      rw[<-hw1]at HBa;clear hw1 hKK hM HSs HOs HOn
      have HSet:Hid (∀(wr:World) (s:uE) (c:Nat),Below w1.heap.size w1 wr->xU wr K s->(∃S,tJ A S s)->c<C->Calls Tryz.prog 179 #[.pointer (some ⟨w.heap.size+1+1,0,none⟩),.int .i64 (c:Int)] wr fun e w'=>e=.returned (.tuple #[])/\xU w' K (uP A c s)/\Below w1.heap.size w1 w'):=fun wr s c hb hk ⟨S,hS⟩ hc=>by
       obtain⟨k1,k2,k3,k4,k5,k6,k7,k8,k9,k10,k11,k12,k13,k14,k15,k16⟩:=KE.out;have hMd:=(HMk.out K k11 k12 k13 k14 (by rw[k2])).below HB01.out
       have:=zg w1 wr K A rs G s c hb hMd (HA.out K (by rw[k2]) (by rw[k3]) k14) hk ⟨by rw[k8,hs1];omega,by rw[k9,hs1];omega,by rw[k10,hs1];exact Nat.le_refl _,by rw[k4,hs1];exact hgD1,by rw[k6,hs1];exact hgN1⟩ (by rw[k3];exact hc) (fun r hr=>by
        have:=HOk.out S s hS r (by rw[k2]at hr;exact hr);unfold D0;rw[k3,k14];exact this)
       rw[k1]at this;exact this
      have zGK:Hid (∀wr,Below w1.heap.size w1 wr->Below w.heap.size w wr):=fun wr hb=>HB01.out.trans (hb.mono HB01.out.size);clear HRul HRs HMk HA HOk;go_wp2_with fail
      go_loopw [11] (fun lv wr=>∃(l:Nat) (s:uE),l<=C/\lv=.int .i64 l/\Hid (xU wr K s)/\Hid (Below w1.heap.size w1 wr)/\Hid (uH A C (C-l) l s=uH A C C 0 h0)/\Hid (tJ A (fun x=>x<C/\A.lev x<l) s)) (fun lv _=>C-(intOf lv).toNat)
      case atStart=>exact⟨0,h0,Nat.zero_le _,rfl,HM0,HBa,zA rfl,zA ((zCR A).same fun x=>⟨False.elim,fun hx=>by omega⟩)⟩
      case round =>
       obtain⟨l,s,hl,rfl,HKr,zGQ,HE,HHo⟩:=hrel;by_cases zFZ:l<C
       ·obtain⟨wo,hwo⟩:∃wo,wo=wr:=⟨_,rfl⟩
        rw[<-hwo]at HKr zGQ ⊢;clear hwo;obtain⟨-,u2⟩:=HCr.out wo (zGK.out wo zGQ.out);have hltL:(l:Int)<(C:Int):=by omega
        go_wp2_with fail
        go_loopw [84] (fun iv wr=>∃(i:Nat) (t:uE),i<=C/\iv=.int .i64 i/\Hid (xU wr K t)/\Hid (Below w1.heap.size w1 wr)/\Hid (cW A C l (C-i) i t=cW A C l C 0 s)/\Hid (tJ A (fun x=>x<C/\(A.lev x<l\/A.lev x=l/\x<i)) t)) (fun iv _=>C-(intOf iv).toNat)
        case atStart=>exact⟨0,s,Nat.zero_le _,rfl,HKr,zGQ,zA rfl,zA (HHo.out.same fun x=>by constructor <;> intro hx <;> omega)⟩
        case round =>
         obtain⟨i,t,hi,rfl,HKi,HBi,HEi,HHi⟩:=hrel;by_cases hli:i<C
         ·obtain⟨g,rfl,r0,r1⟩:=HCon.out wr (zGK.out wr HBi.out) i hli
          rw[<-HLev.out i hli]at r1;have hltI:(i:Int)<(C:Int):=by omega
          have lg:=xJ r0
          have HE2:Hid (cW A C l (C-(i+1)) (i+1) (if A.lev i=l then uP A i t else t)=cW A C l C 0 s):=by
           have:=HEi.out;rw[show C-i=(C-(i+1))+1 by omega,B4]at this;exact this
          have HH2:=zA (zAG A C l i HNm.out hli HHi.out);have HSi:Hid (∀ob,Calls Tryz.prog 179 #[.pointer (some ⟨w.heap.size+1+1,0,none⟩),.int .i64 (i:Int)] (wr.alloc ob) fun e w'=>e=.returned (.tuple #[])/\xU w' K (uP A i t)/\Below w1.heap.size w1 w'):=fun ob=>HSet.out (wr.alloc ob) t i (HBi.out.alloc HBi.out.size ob) (HKi.out.below ((Below.refl _ _).alloc (Nat.le_refl _) ob)) ⟨_,HHi.out⟩ hli;have HNo:Hid (∀ob,xU (wr.alloc ob) K t/\Below w1.heap.size w1 (wr.alloc ob)):=fun ob=>⟨HKi.out.below ((Below.refl _ _).alloc (Nat.le_refl _) ob),HBi.out.alloc HBi.out.size ob⟩;clear HEi HHi;generalize (Cs.getD i ([],0)).1=lb at *;by_cases hll:A.lev i=l
          ·rw[if_pos hll]at HE2 HH2
           have b1:((A.lev i:Int)==(l:Int))=true:=by rw[hll];simp
           clear hll HNo;go_wp2_with fail
           refine(HSi.out _).mono ?_;rintro e w5 ⟨rfl,hk5,hb5⟩;have HK5:=zA hk5;have HB5:=zA hb5;clear hk5 hb5;go_wp2_with fail
           go_roundw
           case rel=>exact⟨i+1,_,by omega,by go_num,HK5,HB5,HE2,HH2⟩
           case measure=>simp[intOf];omega
          ·rw[if_neg hll]at HE2 HH2
           have b1:((A.lev i:Int)==(l:Int))=false:=by rw[beq_eq_false_iff_ne];omega
           clear hll HSi;go_wp2_with fail
           go_roundw
           case rel=>exact⟨i+1,t,by omega,by go_num,zA (HNo.out _).1,zA (HNo.out _).2,HE2,HH2⟩
           case measure=>simp[intOf];omega
         ·obtain rfl:C=i:=by omega
          have hiN3:¬((C:Int)<(C:Int)):=by omega
          have HEt:Hid (t=cW A C l C 0 s):=by have:=HEi.out;rw[Nat.sub_self]at this;exact this
          have HEn:Hid (uH A C (C-(l+1)) (l+1) t=uH A C C 0 h0):=by
           have:=HE.out;rw[show C-l=(C-(l+1))+1 by omega,Va,<-HEt.out]at this;exact this
          have HHn:Hid (tJ A (fun x=>x<C/\A.lev x<l+1) t):=HHi.out.same fun x=>by constructor <;> intro hx <;> omega
          go_wp2_with fail
          go_roundw
          case rel=>exact⟨l+1,t,by omega,by go_num,HKi,HBi,HEn,HHn⟩
          case measure=>simp[intOf];omega
       ·obtain rfl:C=l:=by omega
        have hiN4:¬((C:Int)<(C:Int)):=by omega
        have HEs:Hid (s=uH A C C 0 h0):=by have:=HE.out;rw[Nat.sub_self]at this;exact this
        obtain⟨k1,k2,k3,k4,k5,k6,k7,k8,k9,k10,k11,k12,k13,k14,k15,k16⟩:=KE.out;obtain⟨-,-,-,-,-,s5,s6⟩:=HKr.out.cells;rw[k1,k2,k4,k5]at s5;rw[k1,k3,k6,k7]at s6;have hres:wr.heap[w.heap.size]? = some (.cells #[.slice none 0 0,.slice none 0 0] 163 (0,0)):=by rw[zGQ.out.block _ (by omega)];exact HR1.out
        have HFm:Hid (∀j v j' v',xU ((wr.setCell ⟨w.heap.size,j,none⟩ v).setCell ⟨w.heap.size,j',none⟩ v') K s):=fun j v j' v'=>(HKr.out.outer v (by rw[k1];omega) (by rw[k8];omega) (by rw[k9];omega) (by rw[k10];omega) (by rw[k4];omega) (by rw[k6];omega)).outer v' (by rw[k1];omega) (by rw[k8];omega) (by rw[k9];omega) (by rw[k10];omega) (by rw[k4];omega) (by rw[k6];omega);have HFb:Hid (∀j v j' v',Below w.heap.size w ((wr.setCell ⟨w.heap.size,j,none⟩ v).setCell ⟨w.heap.size,j',none⟩ v')):=fun j v j' v'=>((zGK.out wr zGQ.out).setCell (by simp) v).setCell (by simp) v'
        have HFr:Hid (∀v v',((wr.setCell ⟨w.heap.size,0,none⟩ v).setCell ⟨w.heap.size,1,none⟩ v').heap[w.heap.size]? = some (.cells #[v,v'] 163 (0,0))):=fun v v'=>by
         have z1:=heap_setCell_same wr _ 0 _ _ v hres;have z2:=heap_setCell_same _ _ 1 _ _ v' z1;rw[z2];simp
        have z0:wr.cell? ⟨w.heap.size,0,none⟩=some (.slice none 0 0):=(zF hres 0).trans rfl;have z1:wr.cell? ⟨w.heap.size,1,none⟩=some (.slice none 0 0):=(zF hres 1).trans rfl;have y0:wr.frozen? ⟨w.heap.size,0,none⟩=false:=by simp[World.frozen?,hres]
        have y1:wr.frozen? ⟨w.heap.size,1,none⟩=false:=by simp[World.frozen?,hres]
        clear hres HKr zGQ HE HHo HSet HM0 HBa;go_wp2_with fail
        have q0:=HFr.out (.slice (some ⟨gD,0,none⟩) R cD) (.slice (some ⟨gN,0,none⟩) C cN);refine bodyPost_ret (v:=.agg #[.slice (some ⟨gD,0,none⟩) R cD,.slice (some ⟨gN,0,none⟩) C cN]) (results_cell_row Tryz.results113 _ _ w.heap.size 163 #[.slice (some ⟨gD,0,none⟩) R cD,.slice (some ⟨gN,0,none⟩) C cN] (0,0) _ rfl q0 Tryz.underlying163 rfl Vo) rfl ⟨K,k15,k16,by rw[hRn];exact k2,by rw[hCn];exact k3,by rw[k2,k3,k4,k5,k6,k7],?_,HFb.out _ _ _ _⟩;rw[hCn,<-HEs.out];exact HFm.out _ _ _ _
theorem Gw(P:List PT)(i:Nat)(h:i<P.length):oB P (P.length-i) i=if i%4=0/\(yP P i).k=0 then true else VN (yP P i) i&&oB P (P.length-(i+1)) (i+1):=by
 rw[show P.length-i=(P.length-(i+1))+1 by omega,oB]
theorem Ch(w:World)(g cap:Nat)(P:List PT)(h:Yz w g P)(hg:g<w.heap.size)(hP:P.length<=4001) :
 Calls Tryz.prog 175 #[.slice (some ⟨g,0,none⟩) P.length cap] w fun e w'=>e=.returned (.bool (fM P))/\Below w.heap.size w w':=by
 have HT:=zA h;clear h
 go_enter Tryz.func175,Tryz.ntmps175
 go_wp2_with fail
 go_loopw [7] (fun iv wr=>∃(i:Nat),i<=P.length/\iv=.int .i64 i/\Hid (Below w.heap.size w wr)/\Hid (oB P (P.length-i) i=fM P)) (fun iv _=>P.length-(intOf iv).toNat)
 case atStart=>exact⟨0,Nat.zero_le _,rfl,zA (Below.refl _ _),zA rfl⟩
 case round =>
  obtain⟨i,hi,rfl,HB,HE⟩:=hrel;have zG9:=HB.out.size;by_cases zFZ:i<P.length
  ·have hT:=HT.out i zFZ
   have q0:=(HB.out.cell (p:=⟨g,i*4,none⟩) hg).trans hT.1;have q1:=(HB.out.cell (p:=⟨g,i*4+1,none⟩) hg).trans hT.2.1;have q2:=(HB.out.cell (p:=⟨g,i*4+2,none⟩) hg).trans hT.2.2.1;have q3:=(HB.out.cell (p:=⟨g,i*4+3,none⟩) hg).trans hT.2.2.2;have hE:=HE.out;rw[Gw P i zFZ]at hE;have HE2:=zA hE;have mg:wr.heap.size≠g:=by omega
   clear HE hE hT;generalize yP P i=t at *;obtain⟨tk,ts,tv,tp⟩:=t;simp only at q0 q1 q2 q3 HE2;by_cases k0:i%4=0
   ·by_cases k9:tk=0
    ·have HE3:Hid (fM P=true):=by have:=HE2.out;rw[if_pos ⟨k0,k9⟩]at this;exact this.symm
     clear HE2;go_wp2_with fail
     go_ret
     exact⟨zE HE3.out.symm,HB.out.alloc zG9 _⟩
    have b9:(tk==0)=false:=by simpa using k9
    have HE4:Hid ((decide (tk=2)&&oB P (P.length-(i+1)) (i+1))=fM P):=by
     have:=HE2.out;rw[if_neg (fun h=>k9 h.2)]at this;unfold VN at this;rw[if_pos k0]at this;exact this
    clear HE2;by_cases k8:tk=2
    ·have HE3:Hid (oB P (P.length-(i+1)) (i+1)=fM P):=by have:=HE4.out;rw[decide_eq_true k8,Bool.true_and]at this;exact this
     clear HE4;go_wp2_with fail
     go_roundw
     case rel=>exact⟨i+1,by omega,by go_num,zA (HB.out.alloc zG9 _),HE3⟩
     case measure=>simp[intOf];omega
    ·have HE3:Hid (fM P=false):=by have:=HE4.out;rw[decide_eq_false k8,Bool.false_and]at this;exact this.symm
     have b8:(tk==2)=false:=by simpa using k8
     clear HE4;go_wp2_with fail
     go_ret
     exact⟨zE HE3.out.symm,HB.out.alloc zG9 _⟩
   by_cases k1:i%4=1
   ·have HE4:Hid (((decide (tk=4)&&decide (ts=[61]))&&oB P (P.length-(i+1)) (i+1))=fM P):=by
     have:=HE2.out;rw[if_neg (fun h=>k0 h.1)]at this;unfold VN at this;rw[if_neg k0,if_pos k1]at this;exact this
    have HC:Hid (∀w:World,Calls Tryz.prog 225 #[Qd ⟨tk,ts,tv,tp⟩,.string ⟨#[61]⟩] w fun e w'=>e=.returned (.bool (decide (tk=4)&&decide (ts=[61])))/\Below w.heap.size w w'):=fun w=>QT w ⟨tk,ts,tv,tp⟩ [61];clear HE2;generalize (decide (tk=4)&&decide (ts=[61]))=am at *;cases am
    ·have HE3:Hid (fM P=false):=by have:=HE4.out;rw[Bool.false_and]at this;exact this.symm
     clear HE4;go_wp2_with fail
     refine(HC.out _).mono ?_;rintro e w2 ⟨rfl,hb2⟩;go_wp2_with fail
     go_ret
     exact⟨zE HE3.out.symm,(HB.out.alloc zG9 _).trans (hb2.mono (by simp;omega))⟩
    ·have HE3:Hid (oB P (P.length-(i+1)) (i+1)=fM P):=by have:=HE4.out;rw[Bool.true_and]at this;exact this
     clear HE4;go_wp2_with fail
     refine(HC.out _).mono ?_;rintro e w2 ⟨rfl,hb2⟩;go_wp2_with fail
     go_roundw
     case rel=>exact⟨i+1,by omega,by go_num,zA ((HB.out.alloc zG9 _).trans (hb2.mono (by simp;omega))),HE3⟩
     case measure=>simp[intOf];omega
   by_cases k2:i%4=2
   ·have HE4:Hid (((decide (tk=3) || rP ⟨tk,ts,tv,tp⟩)&&oB P (P.length-(i+1)) (i+1))=fM P):=by
     have:=HE2.out;rw[if_neg (fun h=>k0 h.1)]at this;unfold VN at this;rw[if_neg k0,if_neg k1,if_pos k2]at this;exact this
    have HC:Hid (∀w:World,Calls Tryz.prog 226 #[Qd ⟨tk,ts,tv,tp⟩] w fun e w'=>e=.returned (.bool (rP ⟨tk,ts,tv,tp⟩))/\Below w.heap.size w w'):=fun w=>Vd w ⟨tk,ts,tv,tp⟩;clear HE2;generalize rP ⟨tk,ts,tv,tp⟩=am at *;by_cases k9:tk=3
    ·have HE3:Hid (oB P (P.length-(i+1)) (i+1)=fM P):=by have:=HE4.out;rw[decide_eq_true k9,Bool.true_or,Bool.true_and]at this;exact this
     clear HE4;go_wp2_with fail
     go_roundw
     case rel=>exact⟨i+1,by omega,by go_num,zA (HB.out.alloc zG9 _),HE3⟩
     case measure=>simp[intOf];omega
    have b9:(tk==3)=false:=by simpa using k9
    rw[decide_eq_false k9,Bool.false_or]at HE4;cases am
    ·have HE3:Hid (fM P=false):=by have:=HE4.out;rw[Bool.false_and]at this;exact this.symm
     clear HE4;go_wp2_with fail
     refine(HC.out _).mono ?_;rintro e w2 ⟨rfl,hb2⟩;go_wp2_with fail
     go_ret
     exact⟨zE HE3.out.symm,(HB.out.alloc zG9 _).trans (hb2.mono (by simp;omega))⟩
    ·have HE3:Hid (oB P (P.length-(i+1)) (i+1)=fM P):=by have:=HE4.out;rw[Bool.true_and]at this;exact this
     clear HE4;go_wp2_with fail
     refine(HC.out _).mono ?_;rintro e w2 ⟨rfl,hb2⟩;go_wp2_with fail
     go_roundw
     case rel=>exact⟨i+1,by omega,by go_num,zA ((HB.out.alloc zG9 _).trans (hb2.mono (by simp;omega))),HE3⟩
     case measure=>simp[intOf];omega
   ·have k3:i%4=3:=by omega
    have HE4:Hid (((decide (tk=4)&&decide (ts=[59]))&&oB P (P.length-(i+1)) (i+1))=fM P):=by
     have:=HE2.out;rw[if_neg (fun h=>k0 h.1)]at this;unfold VN at this;rw[if_neg k0,if_neg k1,if_neg k2]at this;exact this
    have HC:Hid (∀w:World,Calls Tryz.prog 225 #[Qd ⟨tk,ts,tv,tp⟩,.string ⟨#[59]⟩] w fun e w'=>e=.returned (.bool (decide (tk=4)&&decide (ts=[59])))/\Below w.heap.size w w'):=fun w=>QT w ⟨tk,ts,tv,tp⟩ [59];clear HE2;generalize (decide (tk=4)&&decide (ts=[59]))=am at *;cases am
    ·have HE3:Hid (fM P=false):=by have:=HE4.out;rw[Bool.false_and]at this;exact this.symm
     clear HE4;go_wp2_with fail
     refine(HC.out _).mono ?_;rintro e w2 ⟨rfl,hb2⟩;go_wp2_with fail
     go_ret
     exact⟨zE HE3.out.symm,(HB.out.alloc zG9 _).trans (hb2.mono (by simp;omega))⟩
    ·have HE3:Hid (oB P (P.length-(i+1)) (i+1)=fM P):=by have:=HE4.out;rw[Bool.true_and]at this;exact this
     clear HE4;go_wp2_with fail
     refine(HC.out _).mono ?_;rintro e w2 ⟨rfl,hb2⟩;go_wp2_with fail
     go_roundw
     case rel=>exact⟨i+1,by omega,by go_num,zA ((HB.out.alloc zG9 _).trans (hb2.mono (by simp;omega))),HE3⟩
     case measure=>simp[intOf];omega
  ·have HE3:Hid (fM P=false):=by have:=HE.out;rw[show P.length-i=0 by omega,oB]at this;exact this.symm
   clear HE;go_wp2_with fail
   go_ret
   exact⟨zE HE3.out.symm,HB.out⟩
structure zFX(w:World)(b o:Nat)(I:List yT):Prop where
 inp:∃a c,w.cell? ⟨b,o,none⟩=some (.slice a I.length c)/\kG w 258 a (I.flatMap qY)
 few:I.length<=10000
def Kk(I:List yT)(f:Bs)(w w':World)(e:Ending):Prop:=∃a c,e=.returned (.agg #[.slice a (yN I f).1.length c,.int .i64 (yN I f).2])/\qQ w' a (yN I f).1/\Below w.heap.size w w'
def VI(P:List PT)(I:List yT):List Int × Int :=
 match pI P I P.length 0 (List.replicate I.length 0,List.replicate I.length false) with
 | none=>([],10)
 | some st=>if st.2.all id then (st.1,0) else ([],10)
theorem qk(I:List yT)(f:Bs)(h:¬ 300<f.length):yN I f=if fM (lW f)=false then ([],2) else VI (lW f) I:=by
 unfold yN VI;rw[if_neg h];rfl
theorem oO:(Tryz.prog.info? 248).map (·.size)=some 2:=by kernel_rfl
theorem dV{w w':World}{I:List yT}{f:Bs}{k:Int}{e:Ending}(h:yN I f=([],k))(he:e=.returned (.agg #[.slice none 0 0,.int .i64 k]))(hb:Below w.heap.size w w'):Kk I f w w' e:=by
 refine⟨none,0,by rw[h];exact he,?_,hb⟩;rw[h];exact⟨.inl rfl,by simp⟩
def zBO(nm:Bs)(n:Bool)(v:Int):Obj:=.cells #[.string ⟨nm.toArray⟩,.bool n,.int .i64 v] 311 (0,0)
theorem zBN{w:World}{b:Nat}{nm nm':Bs}{n n':Bool}{v v':Int}(h:w.heap[b]? = some (zBO nm n v)):(((w.setCell ⟨b,0,none⟩ (.string ⟨nm'.toArray⟩)).setCell ⟨b,1,none⟩ (.bool n')).setCell ⟨b,2,none⟩ (.int .i64 v')).heap[b]? = some (zBO nm' n' v'):=by
 unfold zBO at *;have z1:=heap_setCell_same w _ 0 _ _ (.string ⟨nm'.toArray⟩) h;have z2:=heap_setCell_same _ _ 1 _ _ (.bool n') z1;have z3:=heap_setCell_same _ _ 2 _ _ (.int .i64 v') z2;rw[z3];simp
theorem XM{w:World}{b:Nat}{nm:Bs}{n:Bool}{v:Int}(h:w.heap[b]? = some (zBO nm n v)):w.cell? ⟨b,0,none⟩=some (.string ⟨nm.toArray⟩)/\w.cell? ⟨b,1,none⟩=some (.bool n)/\w.cell? ⟨b,2,none⟩=some (.int .i64 v)/\w.frozen? ⟨b,0,none⟩=false/\w.frozen? ⟨b,1,none⟩=false/\w.frozen? ⟨b,2,none⟩=false:=by
 unfold zBO at h;exact⟨(zF h 0).trans rfl,(zF h 1).trans rfl,(zF h 2).trans rfl,by simp[World.frozen?,h],by simp[World.frozen?,h],by simp[World.frozen?,h]⟩
theorem Yz.low{w w':World}{g B:Nat}{P:List PT}(h:Yz w g P)(hb:Below B w w')(hg:g<B):Yz w' g P:=fun i hi=>by
 obtain⟨a,b,c,d⟩:=h i hi;exact⟨by rw[hb.cell (p:=⟨g,_,none⟩) hg];exact a,by rw[hb.cell (p:=⟨g,_,none⟩) hg];exact b,by rw[hb.cell (p:=⟨g,_,none⟩) hg];exact c,by rw[hb.cell (p:=⟨g,_,none⟩) hg];exact d⟩
theorem UN(P:List PT)(I:List yT)(k:Nat)(st:List Int × List Bool)(hk:k<P.length)(h:k*4+4<P.length):pI P I (P.length-k) k st =
 (if zM (I.map yT.name) (qZ (yP P (k*4)) (yP P (k*4+2))).name<0 then none
  else if st.2.getD (zM (I.map yT.name) (qZ (yP P (k*4)) (yP P (k*4+2))).name).toNat false=true then none
  else if lS (qZ (yP P (k*4)) (yP P (k*4+2))) (I.getD (zM (I.map yT.name) (qZ (yP P (k*4)) (yP P (k*4+2))).name).toNat ZZ)=false then none
  else pI P I (P.length-(k+1)) (k+1) (st.1.set (zM (I.map yT.name) (qZ (yP P (k*4)) (yP P (k*4+2))).name).toNat (qZ (yP P (k*4)) (yP P (k*4+2))).value,st.2.set (zM (I.map yT.name) (qZ (yP P (k*4)) (yP P (k*4+2))).name).toNat true)):=by
 rw[show P.length-k=(P.length-(k+1))+1 by omega,pI,if_pos h]
theorem UM(P:List PT)(I:List yT)(n k:Nat)(st:List Int × List Bool)(h:¬k*4+4<P.length):pI P I n k st=some st:=by
 cases n with
 | zero=>rfl
 | succ n=>rw[pI,if_neg h]
theorem zCK(w:World)(f:Bs)(zGO:f.length<=maxLen)(b o:Nat)(I:List yT)(hI:zFX w b o I) :
 Calls Tryz.prog 112 #[.string ⟨f.toArray⟩,.pointer (some ⟨b,o,none⟩)] w fun e w'=>Kk I f w w' e:=by
 obtain⟨xa,xc,hx0,hx1⟩:=hI.inp;have zGH:=hI.few;unfold maxLen at zGO;by_cases hl:300<f.length
 ·have HC:Hid (yN I f=([],1)):=by unfold Hid yN;rw[if_pos hl]
  have b1:(300:Int)<(f.length:Int):=by omega
  have HR:Hid ((w.alloc (.cells #[.slice none 0 0,.int .i64 1] 248 (0,0))).heap[w.heap.size]? = some (.cells #[.slice none 0 0,.int .i64 1] 248 (0,0))):=zS _ _;have HB:Hid (Below w.heap.size w (w.alloc (.cells #[.slice none 0 0,.int .i64 1] 248 (0,0)))):=(Below.refl _ _).alloc (Nat.le_refl _) _;clear hl hx0 hx1 hI
  go_enter Tryz.func112,Tryz.ntmps112
  go_wp2_with fail
  refine bodyPost_ret (v:=.agg #[.slice none 0 0,.int .i64 1]) (results_cell_row Tryz.results112 _ _ w.heap.size 248 #[.slice none 0 0,.int .i64 1] (0,0) _ rfl HR.out Tryz.underlying248 rfl oO) rfl (dV HC.out rfl HB.out)
 ·have hl3:f.length<=300:=by omega
  have HC0:=zA (qk I f hl)
  have HTk:Hid (∀w':World,Calls Tryz.prog 100 #[.string ⟨f.toArray⟩] w' fun e w''=>∃g cap,e=.returned (.slice (some ⟨g,0,none⟩) (lW f).length cap)/\w'.heap.size<=g/\g<w''.heap.size/\Yz w'' g (lW f)/\Below w'.heap.size w' w''):=fun w'=>by
   refine(VY f w' (by omega)).mono ?_;rintro e w'' ⟨v,rfl,zG1,hb⟩;have e1:(zP f 0).length+1=(lW f).length:=(bX f).symm;rw[QW f,e1]at zG1;obtain⟨g,cap,rfl,h0,h1,_,_,h4⟩:=QF zG1 (by rw[bX];omega);exact⟨g,cap,rfl,h0,h1,h4,hb⟩
  have hPl:(lW f).length<=301:=by rw[bX];have:=uU f 0;omega
  have HAr:Hid (∀(w':World) (g cap:Nat),Yz w' g (lW f)->g<w'.heap.size->Calls Tryz.prog 175 #[.slice (some ⟨g,0,none⟩) (lW f).length cap] w' fun e w''=>e=.returned (.bool (fM (lW f)))/\Below w'.heap.size w' w''):=fun w' g cap h hg=>Ch w' g cap (lW f) h hg (by omega);have b1:¬((300:Int)<(f.length:Int)):=by omega
  have HX:Hid (∀w',Below w.heap.size w w'->w'.cell? ⟨b,o,none⟩=some (.slice xa I.length xc)/\kG w' 258 xa (I.flatMap qY)):=fun w' hb=>⟨by rw[hb.cell (p:=⟨b,o,none⟩) (xJ hx0)];exact hx0,hx1.below hb⟩;have HFi:Hid (∀w' nm,Below w.heap.size w w'->Calls Tryz.prog 177 #[.pointer (some ⟨b,o,none⟩),.string ⟨nm.toArray⟩] w' fun e w''=>e=.returned (.int .i64 (zM (I.map yT.name) nm))/\Below w'.heap.size w' w''):=fun w' nm hb=>Yl w' b o xa xc I nm (HX.out w' hb).1 (HX.out w' hb).2.cel (by omega);generalize hP:lW f=P at *;clear hl hx0 hx1 hI hP hl3
  cases har:fM P with
  | false =>
    have HC:Hid (yN I f=([],2)):=by have:=HC0.out;rw[har,if_pos rfl]at this;exact this
    rw[har]at HAr;clear HC0 har
    go_enter Tryz.func112,Tryz.ntmps112
    go_wp2_with fail
    refine(HTk.out _).mono ?_;rintro e w1 ⟨g,cap,rfl,hg0,hg1,htk,hb1⟩;have HB1:Hid (Below w.heap.size w w1):=((Below.refl _ _).alloc (Nat.le_refl _) _).trans (hb1.mono (by simp));have HR1:Hid (w1.heap[w.heap.size]? = some (.cells #[.slice none 0 0,.int .i64 0] 248 (0,0))):=(hb1.block _ (zD _ _)).trans (zS _ _);have HT1:=zA htk;clear htk hb1 HTk;go_wp2_with fail
    refine(HAr.out _ _ _ HT1.out hg1).mono ?_;rintro e w2 ⟨rfl,hb2⟩;have HB2:Hid (Below w.heap.size w w2):=HB1.out.trans (hb2.mono HB1.out.size);have hR2:w2.heap[w.heap.size]? = some (.cells #[.slice none 0 0,.int .i64 0] 248 (0,0)):=(hb2.block _ (yD HR1.out)).trans HR1.out;have z0:w2.cell? ⟨w.heap.size,0,none⟩=some (.slice none 0 0):=(zF hR2 0).trans rfl;have z1:w2.cell? ⟨w.heap.size,1,none⟩=some (.int .i64 0):=(zF hR2 1).trans rfl;have y0:w2.frozen? ⟨w.heap.size,0,none⟩=false:=by simp[World.frozen?,hR2]
    have y1:w2.frozen? ⟨w.heap.size,1,none⟩=false:=by simp[World.frozen?,hR2]
    have HFr:Hid (((w2.setCell ⟨w.heap.size,0,none⟩ (.slice none 0 0)).setCell ⟨w.heap.size,1,none⟩ (.int .i64 2)).heap[w.heap.size]? = some (.cells #[.slice none 0 0,.int .i64 2] 248 (0,0))):=by
     have q1:=heap_setCell_same w2 _ 0 _ _ (.slice none 0 0) hR2;have q2:=heap_setCell_same _ _ 1 _ _ (.int .i64 2) q1;unfold Hid;rw[q2];simp
    have HBf:Hid (Below w.heap.size w ((w2.setCell ⟨w.heap.size,0,none⟩ (.slice none 0 0)).setCell ⟨w.heap.size,1,none⟩ (.int .i64 2))):=(HB2.out.setCell (by simp) _).setCell (by simp) _;clear hb2 HB1 HR1 HT1 hR2 HAr;go_wp2_with fail
    refine bodyPost_ret (v:=.agg #[.slice none 0 0,.int .i64 2]) (results_cell_row Tryz.results112 _ _ w.heap.size 248 #[.slice none 0 0,.int .i64 2] (0,0) _ rfl HFr.out Tryz.underlying248 rfl oO) rfl (dV HC.out rfl HBf.out)
  | true =>
    have HC:Hid (yN I f=VI P I):=by have:=HC0.out;rw[har,if_neg (by decide)]at this;exact this
    rw[har]at HAr;clear HC0 har;have hmI:=run_make_row' (P:=Tryz.prog) 59 3 (.int .i64 0) 8 Tryz.underlying59 mX rfl .i64 .i64 I.length (by omega) (by omega);have hmB:=run_make_row' (P:=Tryz.prog) 180 4 (.bool false) 1 Tryz.underlying180 mA rfl .i64 .i64 I.length (by omega) (by omega);rw[dR]at hmI;rw[tV]at hmB
    go_enter Tryz.func112,Tryz.ntmps112
    go_wp2_with fail
    refine(HTk.out _).mono ?_;rintro e w1 ⟨g,cap,rfl,hg0,hg1,htk,hb1⟩;have HB1:Hid (Below w.heap.size w w1):=((Below.refl _ _).alloc (Nat.le_refl _) _).trans (hb1.mono (by simp));have HR1:Hid (w1.heap[w.heap.size]? = some (.cells #[.slice none 0 0,.int .i64 0] 248 (0,0))):=(hb1.block _ (zD _ _)).trans (zS _ _);have HT1:=zA htk;clear htk hb1 HTk;go_wp2_with fail
    refine(HAr.out _ _ _ HT1.out hg1).mono ?_;rintro e w2 ⟨rfl,hb2⟩;have HB2:Hid (Below w.heap.size w w2):=HB1.out.trans (hb2.mono HB1.out.size);have HR2:Hid (w2.heap[w.heap.size]? = some (.cells #[.slice none 0 0,.int .i64 0] 248 (0,0))):=(hb2.block _ (yD HR1.out)).trans HR1.out;have HT2:=zA (HT1.out.low hb2 hg1);have hg2:g<w2.heap.size:=Nat.lt_of_lt_of_le hg1 hb2.size;obtain⟨m0,-⟩:=HX.out w2 HB2.out;have lb:=xJ m0;have nb:w2.heap.size≠b:=by omega
    clear hb2 HB1 HR1 HT1 HAr;go_wp2_with fail
    have HI0:Hid (kF ((w2.alloc (Obj.cells (iC (List.replicate I.length 0)) 3)).alloc (Obj.cells (gC (List.replicate I.length false)) 4)) w2.heap.size (List.replicate I.length 0)):=zQ (zS _ _);have HV0:Hid (xV ((w2.alloc (Obj.cells (iC (List.replicate I.length 0)) 3)).alloc (Obj.cells (gC (List.replicate I.length false)) 4)) (w2.heap.size+1) (List.replicate I.length false)):=uZ _ _ _ (by simp);have HA0:Hid (Below w2.heap.size w2 ((w2.alloc (Obj.cells (iC (List.replicate I.length 0)) 3)).alloc (Obj.cells (gC (List.replicate I.length false)) 4))):=((Below.refl _ _).alloc (Nat.le_refl _) _).alloc (by simp) _;generalize (w2.alloc (Obj.cells (iC (List.replicate I.length 0)) 3)).alloc (Obj.cells (gC (List.replicate I.length false)) 4)=wA at *;clear hmI hmB
    go_loopw [8] (fun av wr=>∃(k:Nat) (L:List Int) (V:List Bool),k<=P.length/\av=.int .i64 ((k*4:Nat):Int)/\Hid (L.length=I.length/\V.length=I.length)/\Hid (kF wr w2.heap.size L)/\Hid (xV wr (w2.heap.size+1) V)/\Hid (Below w2.heap.size w2 wr)/\Hid (pI P I (P.length-k) k (L,V)=pI P I P.length 0 (List.replicate I.length 0,List.replicate I.length false))) (fun av _=>P.length+4-(intOf av).toNat)
    case atStart=>exact⟨0,_,_,Nat.zero_le _,rfl,zA ⟨by simp,by simp⟩,HI0,HV0,HA0,zA rfl⟩
    case round =>
     obtain⟨k,L,V,hk,rfl,HLn,HIr,HVr,zGQ,HE⟩:=hrel;by_cases zFZ:k*4+4<P.length
     ·have hkl:k<P.length:=by omega
      have hE:=HE.out;rw[UN P I k (L,V) hkl zFZ]at hE;have HE2:=zA hE;have HTr:=zA (HT2.out.low zGQ.out hg2);have t1:=HTr.out (k*4) (by omega);have t2:=HTr.out (k*4+2) (by omega);have HFo:Hid (∀w',Calls Tryz.prog 176 #[Qd (yP P (k*4)),Qd (yP P (k*4+2))] w' fun e w''=>e=.returned (nC (qZ (yP P (k*4)) (yP P (k*4+2))))/\Below w'.heap.size w' w''):=fun w'=>uz w' (yP P (k*4)) (yP P (k*4+2));clear HE hE HTr;generalize qZ (yP P (k*4)) (yP P (k*4+2))=F at *;generalize yP P (k*4)=n1 at *;generalize yP P (k*4+2)=v1 at *;obtain⟨n1k,n1s,n1v,n1p⟩:=n1;obtain⟨v1k,v1s,v1v,v1p⟩:=v1;obtain⟨Fn,Fi,Fv⟩:=F;obtain⟨a0,a1,a2,a3⟩:=t1;obtain⟨c0,c1,c2,c3⟩:=t2;simp only[Qd,nC]at a0 a1 a2 a3 c0 c1 c2 c3 HFo HE2;have hb4:((k*4:Nat):Int)+4<(P.length:Int):=by omega
      have hi1:((k*4:Nat):Int)<(P.length:Int):=by omega
      have hi2:((k*4:Nat):Int)+2<(P.length:Int):=by omega
      have zG9:=zGQ.out.size;generalize hka:k*4=a at *;have hw2:IntKind.i64.wrap ((a:Int)+2)=(a:Int)+2:=by simp[IntKind.wrap,IntKind.signed,IntKind.bits];omega
      have hp2:(0:Int)<=(a:Int)+2:=by omega
      have ht2:((a:Int)+2).toNat=a+2:=by omega
      have HTc:Hid (∀w4,Below wr.heap.size wr w4->(w4.cell? ⟨g,a*4,none⟩=some (.int .i64 n1k)/\w4.cell? ⟨g,a*4+1,none⟩=some (.string ⟨n1s.toArray⟩)/\w4.cell? ⟨g,a*4+2,none⟩=some (.int .i64 n1v)/\w4.cell? ⟨g,a*4+3,none⟩=some (.int .i64 n1p))/\w4.cell? ⟨g,(a+2)*4,none⟩=some (.int .i64 v1k)/\w4.cell? ⟨g,(a+2)*4+1,none⟩=some (.string ⟨v1s.toArray⟩)/\w4.cell? ⟨g,(a+2)*4+2,none⟩=some (.int .i64 v1v)/\w4.cell? ⟨g,(a+2)*4+3,none⟩=some (.int .i64 v1p)):=fun w4 hb=>by
       have lg:=xJ a0;exact⟨⟨by rw[hb.cell (p:=⟨g,_,none⟩) lg];exact a0,by rw[hb.cell (p:=⟨g,_,none⟩) lg];exact a1,by rw[hb.cell (p:=⟨g,_,none⟩) lg];exact a2,by rw[hb.cell (p:=⟨g,_,none⟩) lg];exact a3⟩,by rw[hb.cell (p:=⟨g,_,none⟩) lg];exact c0,by rw[hb.cell (p:=⟨g,_,none⟩) lg];exact c1,by rw[hb.cell (p:=⟨g,_,none⟩) lg];exact c2,by rw[hb.cell (p:=⟨g,_,none⟩) lg];exact c3⟩
      have lgr:g<wr.heap.size:=by omega
      have ngr:wr.heap.size≠g:=by omega
      go_upto_region 11 with fail
      go_cut [9] from 42 to 84 (fun v9 wx=>∃fb,v9=.pointer (some ⟨fb,0,none⟩)/\Hid (wx.heap[fb]? = some (zBO Fn Fi Fv))/\Hid (Below wr.heap.size wr wx)/\wr.heap.size<=fb)
      case first =>
       go_region_held3 (fun w'=>(w'.cell? ⟨g,a*4,none⟩=some (.int .i64 n1k)/\w'.cell? ⟨g,a*4+1,none⟩=some (.string ⟨n1s.toArray⟩)/\w'.cell? ⟨g,a*4+2,none⟩=some (.int .i64 n1v)/\w'.cell? ⟨g,a*4+3,none⟩=some (.int .i64 n1p))/\w'.cell? ⟨g,(a+2)*4,none⟩=some (.int .i64 v1k)/\w'.cell? ⟨g,(a+2)*4+1,none⟩=some (.string ⟨v1s.toArray⟩)/\w'.cell? ⟨g,(a+2)*4+2,none⟩=some (.int .i64 v1v)/\w'.cell? ⟨g,(a+2)*4+3,none⟩=some (.int .i64 v1p)) (go_keep) (
        (go_at_call 176;refine(HFo.out _).mono ?_;rintro e w4 ⟨rfl,hb5⟩;first
         | (have hB4:Below wr.heap.size wr w4:=(Below.drew (Below.refl _ _)).trans hb5;obtain⟨⟨u0,u1,u2,u3⟩,u4,u5,u6,u7⟩:=HTc.out w4 hB4;have hs4:=hB4.size;have lg4:g<w4.heap.size:=(by omega);have ng4:w4.heap.size≠g:=(by omega))
         | (have hB4:Below wr.heap.size wr w4:=(Below.drew ((Below.refl _ _).alloc (Nat.le_refl _) _)).trans (hb5.mono (Nat.le_of_lt (zD _ _)));have RZ:w4.heap[wr.heap.size]? = some (zBO [] false 0):=(hb5.block _ (zD _ _)).trans (zS _ _);obtain⟨⟨u0,u1,u2,u3⟩,u4,u5,u6,u7⟩:=HTc.out w4 hB4;obtain⟨f0,f1,f2,f3,f4,f5⟩:=XM RZ)))
       all_goals
        go_wp2_with fail
        go_meet
        first
         | exact⟨wr.heap.size,rfl,zA (zBN RZ),zA (((hB4.setCell (p:=⟨wr.heap.size,0,none⟩) (Nat.le_refl _) _).setCell (p:=⟨wr.heap.size,1,none⟩) (Nat.le_refl _) _).setCell (p:=⟨wr.heap.size,2,none⟩) (Nat.le_refl _) _),Nat.le_refl _⟩
         | exact⟨w4.heap.size,rfl,zA (zS _ _),zA (hB4.alloc hB4.size _),hB4.size⟩
      case rest =>
       obtain⟨fb,rfl,HFb,HBc,hfb⟩:=hcut;have HBw2:Hid (Below w2.heap.size w2 wc):=zGQ.out.trans (HBc.out.mono zG9);have HBwc:Hid (Below w.heap.size w wc):=HB2.out.trans (HBw2.out.mono HB2.out.size);have HIc:=zA (HIr.out.below HBc.out);have HVc:=zA (HVr.out.below HBc.out);obtain⟨f0,f1,f2,-,-,-⟩:=XM HFb.out;clear a0 a1 a2 a3 c0 c1 c2 c3 HTc HFo HIr HVr zGQ HBc hw2 hp2 ht2;go_wp2_with fail
       refine(HFi.out _ Fn HBwc.out).mono ?_;rintro e w5 ⟨rfl,hb5⟩;have HB5:Hid (Below w2.heap.size w2 w5):=HBw2.out.trans (hb5.mono HBw2.out.size);have HB5w:Hid (Below w.heap.size w w5):=HB2.out.trans (HB5.out.mono HB2.out.size);have HI5:=zA (HIc.out.below hb5);have HV5:=zA (HVc.out.below hb5);have HF5:Hid (w5.heap[fb]? = some (zBO Fn Fi Fv)):=(hb5.block _ (yD HFb.out)).trans HFb.out;obtain⟨f0,f1,f2,-,-,-⟩:=XM HF5.out;have hfl:=yD HF5.out;have hR5:w5.heap[w.heap.size]? = some (.cells #[.slice none 0 0,.int .i64 0] 248 (0,0)):=(HB5.out.block _ (yD HR2.out)).trans HR2.out
       have HFr:Hid (((w5.setCell ⟨w.heap.size,0,none⟩ (.slice none 0 0)).setCell ⟨w.heap.size,1,none⟩ (.int .i64 10)).heap[w.heap.size]? = some (.cells #[.slice none 0 0,.int .i64 10] 248 (0,0))):=by
        have q1:=heap_setCell_same w5 _ 0 _ _ (.slice none 0 0) hR5;have q2:=heap_setCell_same _ _ 1 _ _ (.int .i64 10) q1;unfold Hid;rw[q2];simp
       have HBf:Hid (Below w.heap.size w ((w5.setCell ⟨w.heap.size,0,none⟩ (.slice none 0 0)).setCell ⟨w.heap.size,1,none⟩ (.int .i64 10))):=(HB5w.out.setCell (by simp) _).setCell (by simp) _;have z0:w5.cell? ⟨w.heap.size,0,none⟩=some (.slice none 0 0):=(zF hR5 0).trans rfl;have z1:w5.cell? ⟨w.heap.size,1,none⟩=some (.int .i64 0):=(zF hR5 1).trans rfl;have y0:w5.frozen? ⟨w.heap.size,0,none⟩=false:=by simp[World.frozen?,hR5]
       have y1:w5.frozen? ⟨w.heap.size,1,none⟩=false:=by simp[World.frozen?,hR5]
       have HNone:Hid (pI P I P.length 0 (List.replicate I.length 0,List.replicate I.length false)=none->yN I f=([],10)):=fun hn=>by rw[HC.out];unfold VI;rw[hn]
       have hpb:=sX Fn (I.map yT.name) 0;rw[List.length_map]at hpb
       change -1<=zM (I.map yT.name) Fn/\zM (I.map yT.name) Fn<((0:Nat):Int)+I.length at hpb
       clear hb5 HIc HVc HFb HBw2 HBwc hR5;generalize zM (I.map yT.name) Fn=pl at *;by_cases p0:pl<0
       ·have HC10:Hid (yN I f=([],10)):=HNone.out (by have:=HE2.out;rw[if_pos p0]at this;exact this.symm)
        clear HE2 HNone
        go_upto_region 13 with fail
        go_quiet (fail)
        go_wp2_with fail
        refine bodyPost_ret (v:=.agg #[.slice none 0 0,.int .i64 10]) (results_cell_row Tryz.results112 _ _ w.heap.size 248 #[.slice none 0 0,.int .i64 10] (0,0) _ rfl HFr.out Tryz.underlying248 rfl oO) rfl (dV HC10.out rfl (yE HBf.out _))
       ·obtain⟨n,rfl⟩:∃n:Nat,pl=(n:Int):=⟨pl.toNat,by omega⟩
        have hn:n<I.length:=by omega
        have hnI:(n:Int)<(I.length:Int):=by omega
        have b0:decide ((n:Int)<0)=false:=by simp
        have gv:=HV5.out.cell (k:=n) (by rw[HLn.out.2];exact hn);have HE3:=HE2.out;rw[if_neg p0,Int.toNat_natCast]at HE3
        replace HE3:=zA HE3
        clear HE2 p0 hpb
        cases hgv:V.getD n false with
        | true =>
          rw[hgv]at gv;have HC10:Hid (yN I f=([],10)):=HNone.out (by have:=HE3.out;rw[hgv,if_pos rfl]at this;exact this.symm);clear HE3 HNone hgv
          go_upto_region 13 with fail
          go_quiet (fail)
          go_wp2_with fail
          refine bodyPost_ret (v:=.agg #[.slice none 0 0,.int .i64 10]) (results_cell_row Tryz.results112 _ _ w.heap.size 248 #[.slice none 0 0,.int .i64 10] (0,0) _ rfl HFr.out Tryz.underlying248 rfl oO) rfl (dV HC10.out rfl (yE HBf.out _))
        | false =>
          rw[hgv]at gv;have HE4:=HE3.out;rw[hgv,if_neg (by decide)]at HE4
          replace HE4:=zA HE4
          obtain⟨m0,mr⟩:=HX.out w5 HB5w.out;obtain⟨xg,rfl,i0⟩:=mr.cel.at ((yO qY 4 (fun _=>rfl) ZZ I n 0 hn (by decide)).trans rfl);have i1:=(mr.cel.at ((yO qY 4 (fun _=>rfl) ZZ I n 1 hn (by decide)).trans rfl)).elim fun g' h=>(show xg=g' by simpa using h.1) ▸ h.2;have i2:=(mr.cel.at ((yO qY 4 (fun _=>rfl) ZZ I n 2 hn (by decide)).trans rfl)).elim fun g' h=>(show xg=g' by simpa using h.1) ▸ h.2;have i3:=(mr.cel.at ((yO qY 4 (fun _=>rfl) ZZ I n 3 hn (by decide)).trans rfl)).elim fun g' h=>(show xg=g' by simpa using h.1) ▸ h.2;rw[Nat.add_zero]at i0;have HFt:Hid (∀w',Calls Tryz.prog 178 #[nC ⟨Fn,Fi,Fv⟩,CI (I.getD n ZZ)] w' fun e w''=>e=.returned (.bool (lS ⟨Fn,Fi,Fv⟩ (I.getD n ZZ)))/\Below w'.heap.size w' w''):=fun w'=>zEF w' ⟨Fn,Fi,Fv⟩ (I.getD n ZZ);clear HE3 hgv mr;generalize I.getD n ZZ=X at *;obtain⟨xn,xf,xl,xh⟩:=X;simp only[nC,CI]at HFt i0 i1 i2 i3;generalize lS ⟨Fn,Fi,Fv⟩ ⟨xn,xf,xl,xh⟩=ft at *
          have HAf:Hid (∀w6,Below w5.heap.size w5 w6->((w6.cell? ⟨fb,0,none⟩=some (.string ⟨Fn.toArray⟩)/\w6.cell? ⟨fb,1,none⟩=some (.bool Fi)/\w6.cell? ⟨fb,2,none⟩=some (.int .i64 Fv))/\w6.cell? ⟨w2.heap.size+1,n,none⟩=some (.bool false)/\w6.cell? ⟨b,o,none⟩=some (.slice (some ⟨xg,0,none⟩) I.length xc)/\w6.cell? ⟨xg,n*4,none⟩=some (.string ⟨xn.toArray⟩)/\w6.cell? ⟨xg,n*4+1,none⟩=some (.bool xf)/\w6.cell? ⟨xg,n*4+2,none⟩=some (.int .i64 xl)/\w6.cell? ⟨xg,n*4+3,none⟩=some (.int .i64 xh))/\w6.heap[w.heap.size]? = some (.cells #[.slice none 0 0,.int .i64 0] 248 (0,0))):=fun w6 hb=>by
           have lx:=xJ i0;refine⟨⟨⟨(hb.cell (p:=⟨fb,_,none⟩) hfl).trans f0,(hb.cell (p:=⟨fb,_,none⟩) hfl).trans f1,(hb.cell (p:=⟨fb,_,none⟩) hfl).trans f2⟩,(hb.cell (p:=⟨w2.heap.size+1,_,none⟩) (xJ gv)).trans gv,(hb.cell (p:=⟨b,_,none⟩) (xJ m0)).trans m0,(hb.cell (p:=⟨xg,_,none⟩) lx).trans i0,(hb.cell (p:=⟨xg,_,none⟩) lx).trans i1,(hb.cell (p:=⟨xg,_,none⟩) lx).trans i2,(hb.cell (p:=⟨xg,_,none⟩) lx).trans i3⟩,?_⟩;have lr:w.heap.size<w5.heap.size:=Nat.lt_of_lt_of_le (yD HR2.out) HB5.out.size;rw[hb.block _ lr];exact(HB5.out.block _ (yD HR2.out)).trans HR2.out
          cases ft with
          | false =>
            have HC10:Hid (yN I f=([],10)):=HNone.out (by have:=HE4.out;rw[if_pos rfl]at this;exact this.symm);clear HE4 HNone HFr HBf z0 z1 y0 y1
            go_upto_region 13 with fail
            go_region_held3 (fun w'=>(w'.cell? ⟨fb,0,none⟩=some (.string ⟨Fn.toArray⟩)/\w'.cell? ⟨fb,1,none⟩=some (.bool Fi)/\w'.cell? ⟨fb,2,none⟩=some (.int .i64 Fv))/\w'.cell? ⟨w2.heap.size+1,n,none⟩=some (.bool false)/\w'.cell? ⟨b,o,none⟩=some (.slice (some ⟨xg,0,none⟩) I.length xc)/\w'.cell? ⟨xg,n*4,none⟩=some (.string ⟨xn.toArray⟩)/\w'.cell? ⟨xg,n*4+1,none⟩=some (.bool xf)/\w'.cell? ⟨xg,n*4+2,none⟩=some (.int .i64 xl)/\w'.cell? ⟨xg,n*4+3,none⟩=some (.int .i64 xh)) (go_keep) (
             (go_at_call 178;refine(HFt.out _).mono ?_;rintro e w6 ⟨rfl,hb6⟩;have hB6:Below w5.heap.size w5 w6:=(Below.drew (Below.refl _ _)).trans hb6;obtain⟨⟨⟨u0,u1,u2⟩,u3,u4,u5,u6,u7,u8⟩,hR6⟩:=HAf.out w6 hB6))
            all_goals
             have z0:w6.cell? ⟨w.heap.size,0,none⟩=some (.slice none 0 0):=(zF hR6 0).trans rfl;have z1:w6.cell? ⟨w.heap.size,1,none⟩=some (.int .i64 0):=(zF hR6 1).trans rfl;have y0:w6.frozen? ⟨w.heap.size,0,none⟩=false:=by simp[World.frozen?,hR6]
             have y1:w6.frozen? ⟨w.heap.size,1,none⟩=false:=by simp[World.frozen?,hR6]
             have HFr:Hid (((w6.setCell ⟨w.heap.size,0,none⟩ (.slice none 0 0)).setCell ⟨w.heap.size,1,none⟩ (.int .i64 10)).heap[w.heap.size]? = some (.cells #[.slice none 0 0,.int .i64 10] 248 (0,0))):=by
              have q1:=heap_setCell_same w6 _ 0 _ _ (.slice none 0 0) hR6;have q2:=heap_setCell_same _ _ 1 _ _ (.int .i64 10) q1;unfold Hid;rw[q2];simp
             have HBf:Hid (Below w.heap.size w ((w6.setCell ⟨w.heap.size,0,none⟩ (.slice none 0 0)).setCell ⟨w.heap.size,1,none⟩ (.int .i64 10))):=((HB5w.out.trans (hB6.mono HB5w.out.size)).setCell (by simp) _).setCell (by simp) _;clear hR6;go_wp2_with fail
             refine bodyPost_ret (v:=.agg #[.slice none 0 0,.int .i64 10]) (results_cell_row Tryz.results112 _ _ w.heap.size 248 #[.slice none 0 0,.int .i64 10] (0,0) _ rfl HFr.out Tryz.underlying248 rfl oO) rfl (dV HC10.out rfl HBf.out)
          | true =>
            have HE5:Hid (pI P I (P.length-(k+1)) (k+1) (L.set n Fv,V.set n true)=pI P I P.length 0 (List.replicate I.length 0,List.replicate I.length false)):=by have:=HE4.out;rw[if_neg (by decide)]at this;exact this
            have HLn2:Hid ((L.set n Fv).length=I.length/\(V.set n true).length=I.length):=by have:=HLn.out;unfold Hid;rw[List.length_set,List.length_set];exact this
            have HSt:Hid (∀w6,Below w5.heap.size w5 w6->(kF ((w6.setCell ⟨w2.heap.size,n,none⟩ (.int .i64 Fv)).setCell ⟨w2.heap.size+1,n,none⟩ (.bool true)) w2.heap.size (L.set n Fv)/\xV ((w6.setCell ⟨w2.heap.size,n,none⟩ (.int .i64 Fv)).setCell ⟨w2.heap.size+1,n,none⟩ (.bool true)) (w2.heap.size+1) (V.set n true)/\Below w2.heap.size w2 ((w6.setCell ⟨w2.heap.size,n,none⟩ (.int .i64 Fv)).setCell ⟨w2.heap.size+1,n,none⟩ (.bool true)))/\w6.cell? ⟨w2.heap.size,n,none⟩=some (.int .i64 (L.getD n 0))/\w6.frozen? ⟨w2.heap.size,n,none⟩=false/\w6.frozen? ⟨w2.heap.size+1,n,none⟩=false):=fun w6 hb=>by
             have h6:=HI5.out.below hb;have v6:=HV5.out.below hb
             have v7:xV (w6.setCell ⟨w2.heap.size,n,none⟩ (.int .i64 Fv)) (w2.heap.size+1) V:=by
              show _=_;rw[heap_setCell_other _ _ _ _ (show w2.heap.size+1≠w2.heap.size by omega)];exact v6
             exact⟨⟨(h6.set n Fv).other (show w2.heap.size≠w2.heap.size+1 by omega) _,v7.set n true,((HB5.out.trans (hb.mono HB5.out.size)).setCell (Nat.le_refl _) _).setCell (show w2.heap.size<=w2.heap.size+1 by omega) _⟩,h6.cell (by rw[HLn.out.1];exact hn),h6.free n,v6.free n⟩
            have nI:fb≠w2.heap.size:=fun e=>by
             have h1:=HF5.out;rw[e]at h1;have h2:w5.heap[w2.heap.size]? = _:=HI5.out;unfold zBO at h1;rw[h1]at h2;simp at h2
            have nIB:w2.heap.size≠w2.heap.size+1:=by omega
            clear HE4 HNone HFr HBf z0 z1 y0 y1
            go_upto_region 13 with fail
            go_region_held3 (fun w'=>(w'.cell? ⟨fb,0,none⟩=some (.string ⟨Fn.toArray⟩)/\w'.cell? ⟨fb,1,none⟩=some (.bool Fi)/\w'.cell? ⟨fb,2,none⟩=some (.int .i64 Fv))/\w'.cell? ⟨w2.heap.size+1,n,none⟩=some (.bool false)/\w'.cell? ⟨b,o,none⟩=some (.slice (some ⟨xg,0,none⟩) I.length xc)/\w'.cell? ⟨xg,n*4,none⟩=some (.string ⟨xn.toArray⟩)/\w'.cell? ⟨xg,n*4+1,none⟩=some (.bool xf)/\w'.cell? ⟨xg,n*4+2,none⟩=some (.int .i64 xl)/\w'.cell? ⟨xg,n*4+3,none⟩=some (.int .i64 xh)) (go_keep) (
             (go_at_call 178;refine(HFt.out _).mono ?_;rintro e w6 ⟨rfl,hb6⟩;have hB6:Below w5.heap.size w5 w6:=(Below.drew (Below.refl _ _)).trans hb6;obtain⟨⟨⟨u0,u1,u2⟩,u3,u4,u5,u6,u7,u8⟩,-⟩:=HAf.out w6 hB6;obtain⟨⟨s1,s2,s3⟩,e1,e2,e3⟩:=HSt.out w6 hB6))
            all_goals
             have HS1:=zA s1;have HS2:=zA s2;have HS3:=zA s3;clear s1 s2 s3;go_wp2_with fail
             go_roundw
             case rel=>exact⟨k+1,_,_,by omega,by rw[show (k+1)*4=a+4 by omega];go_num,HLn2,HS1,HS2,HS3,HE5⟩
             case measure=>simp[intOf];omega
     ·have HN:Hid (pI P I P.length 0 (List.replicate I.length 0,List.replicate I.length false)=some (L,V)):=by have:=HE.out;rw[UM P I _ k (L,V) zFZ]at this;exact this.symm
      have HCs:Hid (yN I f=if V.all id=true then (L,0) else ([],10)):=by unfold Hid;rw[HC.out];unfold VI;rw[HN.out]
      have hb4:¬(((k*4:Nat):Int)+4<(P.length:Int)):=by omega
      obtain⟨wx,hwx⟩:∃wx,wx=wr:=⟨_,rfl⟩;rw[<-hwx]at HIr HVr zGQ ⊢;clear hwx HE HN HC;have HBx:Hid (Below w.heap.size w wx):=HB2.out.trans (zGQ.out.mono HB2.out.size);have hR5:wx.heap[w.heap.size]? = some (.cells #[.slice none 0 0,.int .i64 0] 248 (0,0)):=(zGQ.out.block _ (yD HR2.out)).trans HR2.out;have z0:wx.cell? ⟨w.heap.size,0,none⟩=some (.slice none 0 0):=(zF hR5 0).trans rfl;have z1:wx.cell? ⟨w.heap.size,1,none⟩=some (.int .i64 0):=(zF hR5 1).trans rfl;have y0:wx.frozen? ⟨w.heap.size,0,none⟩=false:=by simp[World.frozen?,hR5]
      have y1:wx.frozen? ⟨w.heap.size,1,none⟩=false:=by simp[World.frozen?,hR5]
      have HFr:Hid (∀v (x:Int),((wx.setCell ⟨w.heap.size,0,none⟩ v).setCell ⟨w.heap.size,1,none⟩ (.int .i64 x)).heap[w.heap.size]? = some (.cells #[v,.int .i64 x] 248 (0,0))):=fun v x=>by
       have q1:=heap_setCell_same wx _ 0 _ _ v hR5;have q2:=heap_setCell_same _ _ 1 _ _ (.int .i64 x) q1;rw[q2];simp
      have HBf:Hid (∀v (x:Int),Below w.heap.size w ((wx.setCell ⟨w.heap.size,0,none⟩ v).setCell ⟨w.heap.size,1,none⟩ (.int .i64 x))):=fun v x=>(HBx.out.setCell (by simp) _).setCell (by simp) _;have hVl:=HLn.out.2;have HCell:Hid (∀j,j<I.length->wx.cell? ⟨w2.heap.size+1,j,none⟩=some (.bool (V.getD j false))):=fun j hj=>HVr.out.cell (by rw[hVl];exact hj)
      have HGo:Hid (V.all id=true ↔ ∀j,j<I.length->V.getD j false=true):=by
       unfold Hid;rw[List.all_eq_true];constructor
       ·intro h j hj
        have hj':j<V.length:=by rw[hVl];exact hj
        have:=h (V.getD j false) (by rw[List.getD_eq_getElem?_getD,List.getElem?_eq_getElem hj'];exact List.getElem_mem hj');exact this
       ·intro h x hx
        obtain⟨j,hj,rfl⟩:=List.getElem_of_mem hx;have:=h j (by rw[<-hVl];exact hj);rw[List.getD_eq_getElem?_getD,List.getElem?_eq_getElem hj]at this;exact this
      have HInt:Hid (∀v (x:Int),qQ ((wx.setCell ⟨w.heap.size,0,none⟩ v).setCell ⟨w.heap.size,1,none⟩ (.int .i64 x)) (some ⟨w2.heap.size,0,none⟩) L):=fun v x=>by
       have zG8:w2.heap.size≠w.heap.size:=by have:=yD HR2.out;omega
       exact((HIr.out.other (p:=⟨w.heap.size,0,none⟩) zG8 v).other (p:=⟨w.heap.size,1,none⟩) zG8 (.int .i64 x)).ints (by rw[HLn.out.1];omega)
      have HLl:=zA HLn.out.1;clear hVl hR5 HLn HIr HVr;go_wp2_with fail
      go_loop [87] (fun jv=>∃(j:Nat),j<=I.length/\jv=.int .i64 j/\Hid (∀i,i<j->V.getD i false=true)) (fun jv=>I.length-(intOf jv).toNat)
      case atStart=>exact⟨0,Nat.zero_le _,rfl,zA (fun i hi=>absurd hi (Nat.not_lt_zero _))⟩
      case round =>
       obtain⟨j,hj,rfl,HJ⟩:=hrel;by_cases hjl:j<I.length
       ·have hjI:(j:Int)<(I.length:Int):=by omega
        have gc:=HCell.out j hjl
        cases hv:V.getD j false with
        | true =>
          rw[hv]at gc
          have HJ2:Hid (∀i,i<j+1->V.getD i false=true):=fun i hi=>by
           rcases Nat.lt_or_ge i j with h1|h1
           ·exact HJ.out i h1
           ·obtain rfl:i=j:=by omega
            exact hv
          clear hv HJ;go_wp2_with fail
          go_round
          case rel=>exact⟨j+1,by omega,by go_num,HJ2⟩
          case measure=>simp[intOf];omega
        | false =>
          rw[hv]at gc
          have HC10:Hid (yN I f=([],10)):=by
           have:=HCs.out;rw[if_neg (fun h=>by have:=HGo.out.1 h j hjl;rw[hv]at this;exact Bool.noConfusion this)]at this;exact this
          clear hv HJ;go_wp2_with fail
          refine bodyPost_ret (v:=.agg #[.slice none 0 0,.int .i64 10]) (results_cell_row Tryz.results112 _ _ w.heap.size 248 #[.slice none 0 0,.int .i64 10] (0,0) _ rfl (HFr.out _ _) Tryz.underlying248 rfl oO) rfl (dV HC10.out rfl (HBf.out _ _))
       ·have hjN:¬(j:Int)<(I.length:Int):=by omega
        have HC0':Hid (yN I f=(L,0)):=by
         have:=HCs.out;rw[if_pos (HGo.out.2 fun i hi=>HJ.out i (by omega))]at this;exact this
        clear HJ;go_wp2_with fail
        refine bodyPost_ret (v:=.agg #[.slice (some ⟨w2.heap.size,0,none⟩) I.length I.length,.int .i64 0]) (results_cell_row Tryz.results112 _ _ w.heap.size 248 #[.slice (some ⟨w2.heap.size,0,none⟩) I.length I.length,.int .i64 0] (0,0) _ rfl (HFr.out _ _) Tryz.underlying248 rfl oO) rfl ?_;exact⟨some ⟨w2.heap.size,0,none⟩,I.length,by rw[HC0'.out,HLl.out],by rw[HC0'.out];exact HInt.out _ _,HBf.out _ _⟩
def Cq(k:Int)(O:World->Value->Value->Prop)(w w':World)(e:Ending):Prop :=
 ∃va vn vc na nn nc,e=.returned (.agg #[.slice va vn vc,.slice na nn nc,.int .i64 k])/\(k≠0->va=none/\vn=0/\na=none/\nn=0)/\(k=0->O w' (.slice va vn vc) (.slice na nn nc))/\Below w.heap.size w w'
theorem CX:(Tryz.prog.info? 165).map (·.size)=some 3:=by kernel_rfl
theorem zEC(w:World)(b:Nat)(f:Bs)(I:List yT)(O:World->Value->Value->Prop)(h0:w.cell? ⟨b,0,none⟩=some (.bool true))(hC:∀w',Below w.heap.size w w'->Calls Tryz.prog 112 #[.string ⟨f.toArray⟩,.pointer (some ⟨b,1,none⟩)] w' fun e w''=>Kk I f w' w'' e)
 (hO:∀w' ia ic,(yN I f).2=0->Below w.heap.size w w'->qQ w' ia (yN I f).1->Calls Tryz.prog 113 #[.pointer (some ⟨b,1,none⟩),.slice ia (yN I f).1.length ic] w' fun e w''=>∃va vn vc na nn nc,e=.returned (.agg #[.slice va vn vc,.slice na nn nc])/\O w'' (.slice va vn vc) (.slice na nn nc)/\Below w'.heap.size w' w'')
 (hK:∀w' B v n,O w' v n->w'.heap[B]? = some (.cells #[.slice none 0 0,.slice none 0 0,.int .i64 0] 165 (0,0))->∀a c d,O (((w'.setCell ⟨B,0,none⟩ a).setCell ⟨B,1,none⟩ c).setCell ⟨B,2,none⟩ d) v n) :
 Calls Tryz.prog 66 #[.pointer (some ⟨b,0,none⟩),.string ⟨f.toArray⟩] w fun e w'=>Cq (yN I f).2 O w w' e:=by
 have HC:=zA hC;have HO:=zA hO;have HK:=zA hK;have lb:=xJ h0;have nb:w.heap.size≠b:=by omega
 have HCs:Hid (∀w' w'' e,Kk I f w' w'' e->∃a c,e=.returned (.agg #[.slice a (yN I f).1.length c,.int .i64 (yN I f).2])/\qQ w'' a (yN I f).1/\Below w'.heap.size w' w''):=fun _ _ _ h=>h;clear hC hO hK;generalize hcs:yN I f=cs at *;obtain⟨L,k⟩:=cs;simp only at HO HCs ⊢;clear hcs
 go_enter Tryz.func66,Tryz.ntmps66
 go_wp2_with fail
 refine(HC.out _ ((Below.refl _ _).alloc (Nat.le_refl _) _)).mono ?_;intro e w1 hci;obtain⟨a,c,rfl,hints,hb1⟩:=HCs.out _ _ _ hci;have HB1:Hid (Below w.heap.size w w1):=((Below.refl _ _).alloc (Nat.le_refl _) _).trans (hb1.mono (by simp));have HR1:Hid (w1.heap[w.heap.size]? = some (.cells #[.slice none 0 0,.slice none 0 0,.int .i64 0] 165 (0,0))):=(hb1.block _ (zD _ _)).trans (zS _ _);have HI1:=zA hints;have hs1:=HB1.out.size;have lr1:=yD HR1.out;have nr1:w1.heap.size≠w.heap.size:=by omega
 have nr1':w.heap.size≠w1.heap.size:=by omega
 clear hci hints hb1 HC HCs;by_cases k0:k=0
 ·subst k0
  have HO1:Hid (∀w',Below w1.heap.size w1 w'->Calls Tryz.prog 113 #[.pointer (some ⟨b,1,none⟩),.slice a L.length c] w' fun e w''=>∃va vn vc na nn nc,e=.returned (.agg #[.slice va vn vc,.slice na nn nc])/\O w'' (.slice va vn vc) (.slice na nn nc)/\Below w'.heap.size w' w''):=fun w' hb=>HO.out w' a c rfl (HB1.out.trans (hb.mono HB1.out.size)) (HI1.out.below hb)
  have HAf:Hid (∀ob w4,Below (w1.alloc ob).heap.size (w1.alloc ob) w4->w4.heap[w.heap.size]? = some (.cells #[.slice none 0 0,.slice none 0 0,.int .i64 0] 165 (0,0))/\w4.heap[w1.heap.size]? = some ob/\Below w.heap.size w w4):=fun ob w4 hb=>by
   refine⟨?_,(hb.block _ (zD _ _)).trans (zS _ _),(HB1.out.alloc HB1.out.size ob).trans (hb.mono (by simp;omega))⟩;rw[hb.block _ (by simp;omega)];exact zQ HR1.out
  clear HO
  go_upto_region 6 with fail
  go_region_held3 (fun w'=>w'.cell? ⟨w1.heap.size,0,none⟩=some (.slice a L.length c)) (go_keep) (
   (go_at_call 113;refine(HO1.out _ (Below.drew ((Below.refl _ _).alloc (Nat.le_refl _) _))).mono ?_;rintro e w4 ⟨va,vn,vc,na,nn,nc,rfl,hout,hb4⟩;obtain⟨hR4,hX4,hB4⟩:=HAf.out _ w4 ((Below.drew (Below.refl _ _)).trans hb4);have u0:w4.cell? ⟨w1.heap.size,0,none⟩=some (.slice a L.length c):=(zF hX4 0).trans rfl;have z0:w4.cell? ⟨w.heap.size,0,none⟩=some (.slice none 0 0):=(zF hR4 0).trans rfl;have z1:w4.cell? ⟨w.heap.size,1,none⟩=some (.slice none 0 0):=(zF hR4 1).trans rfl;have z2:w4.cell? ⟨w.heap.size,2,none⟩=some (.int .i64 0):=(zF hR4 2).trans rfl;have y0:w4.frozen? ⟨w.heap.size,0,none⟩=false:=(by simp[World.frozen?,hR4]);have y1:w4.frozen? ⟨w.heap.size,1,none⟩=false:=(by simp[World.frozen?,hR4]);have y2:w4.frozen? ⟨w.heap.size,2,none⟩=false:=(by simp[World.frozen?,hR4])))
  all_goals
   have HFr:Hid ((((w4.setCell ⟨w.heap.size,0,none⟩ (.slice va vn vc)).setCell ⟨w.heap.size,1,none⟩ (.slice na nn nc)).setCell ⟨w.heap.size,2,none⟩ (.int .i64 0)).heap[w.heap.size]? = some (.cells #[.slice va vn vc,.slice na nn nc,.int .i64 0] 165 (0,0))):=by
    have q1:=heap_setCell_same w4 _ 0 _ _ (.slice va vn vc) hR4;have q2:=heap_setCell_same _ _ 1 _ _ (.slice na nn nc) q1;have q3:=heap_setCell_same _ _ 2 _ _ (.int .i64 0) q2;unfold Hid;rw[q3];simp
   have HBf:Hid (Below w.heap.size w (((w4.setCell ⟨w.heap.size,0,none⟩ (.slice va vn vc)).setCell ⟨w.heap.size,1,none⟩ (.slice na nn nc)).setCell ⟨w.heap.size,2,none⟩ (.int .i64 0))):=((hB4.setCell (by simp) _).setCell (by simp) _).setCell (by simp) _;have HOf:=zA (HK.out w4 w.heap.size _ _ hout hR4 (.slice va vn vc) (.slice na nn nc) (.int .i64 0));clear hout hR4 hX4;go_wp2_with fail
   refine bodyPost_ret (v:=.agg #[.slice va vn vc,.slice na nn nc,.int .i64 0]) (results_cell_row Tryz.results66 _ _ w.heap.size 165 #[.slice va vn vc,.slice na nn nc,.int .i64 0] (0,0) _ rfl HFr.out Tryz.underlying165 rfl CX) rfl ⟨va,vn,vc,na,nn,nc,rfl,fun h=>absurd rfl h,fun _=>HOf.out,HBf.out⟩
 ·have bk:(k==0)=false:=by simpa using k0
  have bk':(k != 0)=true:=by simpa using k0
  have hR1:=HR1.out;have z0:w1.cell? ⟨w.heap.size,0,none⟩=some (.slice none 0 0):=(zF hR1 0).trans rfl;have z1:w1.cell? ⟨w.heap.size,1,none⟩=some (.slice none 0 0):=(zF hR1 1).trans rfl;have z2:w1.cell? ⟨w.heap.size,2,none⟩=some (.int .i64 0):=(zF hR1 2).trans rfl;have y0:w1.frozen? ⟨w.heap.size,0,none⟩=false:=by simp[World.frozen?,hR1]
  have y1:w1.frozen? ⟨w.heap.size,1,none⟩=false:=by simp[World.frozen?,hR1]
  have y2:w1.frozen? ⟨w.heap.size,2,none⟩=false:=by simp[World.frozen?,hR1]
  have HFr:Hid (∀ob,((((w1.setCell ⟨w.heap.size,0,none⟩ (.slice none 0 0)).setCell ⟨w.heap.size,1,none⟩ (.slice none 0 0)).setCell ⟨w.heap.size,2,none⟩ (.int .i64 k)).alloc ob).heap[w.heap.size]? = some (.cells #[.slice none 0 0,.slice none 0 0,.int .i64 k] 165 (0,0))):=fun ob=>by
   have q1:=heap_setCell_same w1 _ 0 _ _ (.slice none 0 0) hR1;have q2:=heap_setCell_same _ _ 1 _ _ (.slice none 0 0) q1;have q3:=heap_setCell_same _ _ 2 _ _ (.int .i64 k) q2;refine(zQ (x:=.cells #[.slice none 0 0,.slice none 0 0,.int .i64 k] 165 (0,0)) ?_);rw[q3];simp
  have HBf:Hid (∀ob,Below w.heap.size w ((((w1.setCell ⟨w.heap.size,0,none⟩ (.slice none 0 0)).setCell ⟨w.heap.size,1,none⟩ (.slice none 0 0)).setCell ⟨w.heap.size,2,none⟩ (.int .i64 k)).alloc ob)):=fun ob=>(((HB1.out.setCell (by simp) _).setCell (by simp) _).setCell (by simp) _).alloc (by simp;omega) ob;clear hR1 HO HK;go_wp2_with fail
  refine bodyPost_ret (v:=.agg #[.slice none 0 0,.slice none 0 0,.int .i64 k]) (results_cell_row Tryz.results66 _ _ w.heap.size 165 #[.slice none 0 0,.slice none 0 0,.int .i64 k] (0,0) _ rfl (HFr.out _) Tryz.underlying165 rfl CX) rfl ⟨none,0,0,none,0,0,rfl,fun _=>⟨rfl,rfl,rfl,rfl⟩,fun h=>absurd h k0,HBf.out _⟩
theorem ja(w:World)(b:Nat)(f:Bs)(k:Int)(O:World->Value->Value->Prop)(hO:∀w w' v n,O w v n->Below w.heap.size w w'->O w' v n)(h:Calls Tryz.prog 66 #[.pointer (some ⟨b,0,none⟩),.string ⟨f.toArray⟩] w fun e w'=>Cq k O w w' e) :
 Calls Tryz.prog 31 #[.pointer (some ⟨b,0,none⟩),.string ⟨f.toArray⟩] w fun e w'=>∃va vn vc na nn nc,e=.returned (.tuple #[.slice va vn vc,.int .i64 k])/\(k≠0->va=none/\vn=0)/\(k=0->O w' (.slice va vn vc) (.slice na nn nc))/\Below w.heap.size w w':=by
 have H:=zA h;have HO:=zA hO;clear h hO
 go_enter Tryz.func31,Tryz.ntmps31
 go_wp2_with fail
 refine H.out.mono ?_;rintro e w1 ⟨va,vn,vc,na,nn,nc,rfl,h1,h2,hb⟩;have HB:=zA hb;have hs:=hb.size;have H1:=zA h1;have H2:=zA h2;clear hb H h1 h2;go_wp2_with fail
 go_quiet (fail)
 go_wp2_with fail
 go_ret2
 exact⟨va,vn,vc,na,nn,nc,rfl,fun hk=>⟨(H1.out hk).1,(H1.out hk).2.1⟩,fun hk=>HO.out _ _ _ _ (H2.out hk) (yE ((Below.refl _ _).alloc (Nat.le_refl _) _) _),yE (HB.out.alloc hs _) _⟩
end Go.Proofs.YtnbpdffdnphbeaaGreatDoor
