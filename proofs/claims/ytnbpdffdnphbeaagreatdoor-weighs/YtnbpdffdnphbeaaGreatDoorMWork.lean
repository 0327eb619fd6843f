import Derived.Test.YtnbpdffdnphbeaaGreatDoorMOf
import Derived.Test.YtnbpdffdnphbeaaGreatDoorMLoad
set_option maxHeartbeats 4000000
set_option maxRecDepth 100000
namespace Go.Proofs.YtnbpdffdnphbeaaGreatDoor
open Go.RowKit
structure iP(F:List zH)(rs:List MX):Prop where
 calm:vT F
 rul:rs.map Prod.fst=pQ ((yJ F).map yT.name) ((vW F).map Prod.fst) F
theorem Ff{F:List zH}(h:vT F):(vW F).map Prod.fst=zJ F:=by
 rw[Xz F h.heads h.nam];unfold Jc;rw[List.map_map];refine List.ext_getElem (by simp) fun i h1 h2=>?_;simp only[List.getElem_map,List.getElem_range,Function.comp];rw[List.getD_eq_getElem?_getD,List.getElem?_eq_getElem h2];rfl
theorem wX{F:List zH}(h:vT F):(vW F).length=(zJ F).length:=by rw[Xz F h.heads h.nam,FW]
theorem zDV{F:List zH}(h:vT F){c:Nat}(hc:c<(zJ F).length):(vW F).getD c ([],0)=((zJ F).getD c [],fU (kE (zJ F) F gZ) c):=by
 rw[Xz F h.heads h.nam];unfold Jc;simp[List.getD,hc]
theorem iP.len{F:List zH}{rs:List MX}(h:iP F rs):rs.length=(tO F).length:=by
 have:=congrArg List.length h.rul;rw[List.length_map,Q6,List.length_map]at this;exact this
theorem iP.at{F:List zH}{rs:List MX}(h:iP F rs){r:Nat}(hr:r<rs.length):(tK rs r).1=Z2 F r:=by
 have e:=congrArg (fun l=>l[r]?) h.rul;rw[Q6,Ff h.calm,List.getElem?_map,List.getElem?_map]at e;have hr2:r<(tO F).length:=by rw[<-h.len];exact hr
 rw[List.getElem?_eq_getElem hr,List.getElem?_eq_getElem hr2]at e;simp only[Option.map_some,Option.some.injEq]at e;unfold tK Z2;rw[List.getD_eq_getElem?_getD,List.getElem?_eq_getElem hr,List.getD_eq_getElem?_getD,List.getElem?_eq_getElem hr2];exact e
theorem iP.hear{F:List zH}{rs:List MX}(h:iP F rs)(inp:List Int)(K:HK)(k1:K.R=rs.length)(k2:K.C=(vW F).length)(k3:K.inp=inp):Dk K (xE F inp h.calm) rs (yY (qG (yZ F) F gZ)):=by
 have hl:=h.len;have h8:=h.calm.rules;rw[<-Zw,<-hl,<-k1]at h8;have kC:K.C=(zJ F).length:=by rw[k2,wX h.calm]
 refine⟨by rw[k1,hl];rfl,fun r hr=>?_,fun r hr f v=>?_,fun r hr hh f=>?_,fun k r hk hr=>?_⟩
 ·rw[h.at (by omega)]
  exact(bP (by omega)).1
 ·rw[h.at (by omega),k3,kC]
  exact XT (Z2 F r) _ inp v [] f f (fun _ _=>rfl)
 ·rw[h.at (by omega),k3,kC]
  exact YO (Z2 F r) _ inp hh [] f f (fun _ _=>rfl)
 ·rw[Jk]
  unfold XF;simp only[Int.toNat_natCast];rw[decide_eq_true (by omega),decide_eq_true (by omega),decide_eq_true (by omega),decide_eq_true (by omega)];simp
theorem iP.lev{F:List zH}{rs:List MX}(h:iP F rs)(inp:List Int):∀c,c<(vW F).length->(xE F inp h.calm).lev c=((vW F).getD c ([],0)).2:=fun c hc=>by
 rw[wX h.calm]at hc;rw[zDV h.calm hc];rfl
theorem iP.nm{F:List zH}{rs:List MX}(h:iP F rs)(inp:List Int):∀r c,r<(xE F inp h.calm).n->(xE F inp h.calm).nm r c->c<(vW F).length:=fun r c hr hn=>by
 rw[wX h.calm];exact(Bh h.calm hr hn).1
theorem UQ:∀a b,a<=b->jP a<=jP b:=by
 intro a b h
 induction h with
 | refl=>exact Int.le_refl _
 | step h ih=>rw[jP];rename_i m;have:=fC m;omega
theorem iP.ok{F:List zH}{rs:List MX}(h:iP F rs){inp:List Int}(hs:Zk F inp):∀S s,tJ (xE F inp h.calm) S s->∀r,r<rs.length->Zt ⟨inp,(List.range (vW F).length).map s.has,(List.range (vW F).length).map s.val⟩ (tK rs r).1.sum:=fun S s ho r hr=>by
 have hr2:r<(tO F).length:=by rw[<-h.len];exact hr
 rw[h.at hr];obtain⟨m1,m2⟩:=Bu h.calm hs hr2;have h9:9*jP 8<=tP:=by decide
 refine QC (fC 8) h9 (fun i=>?_) (fun i=>?_) m1 m2
 ·have:=hs.inp i;have:=fC 8
  show -jP 8<=inp.getD i 0/\inp.getD i 0<=jP 8;omega
 ·by_cases hi:i<(vW F).length
  ·have e:((List.range (vW F).length).map s.val).getD i 0=s.val i:=by simp[List.getD,hi]
   show -jP 8<=((List.range (vW F).length).map s.val).getD i 0/\((List.range (vW F).length).map s.val).getD i 0<=jP 8;rw[e];by_cases hS:S i
   ·rw[(ho.val i).1 hS]
    have hb:=XW h.calm hs ((xE F inp h.calm).lev i+1) i
    have hlv:(xE F inp h.calm).lev i+1<=8:=by
     have:fU (kE (zJ F) F gZ) i<=7:=QP _ 7 i;show fU (kE (zJ F) F gZ) i+1<=8;omega
    have:=UQ _ _ hlv;omega
   ·rw[(ho.val i).2 hS];have:=fC 8;omega
  ·have e:((List.range (vW F).length).map s.val).getD i 0=0:=by simp[List.getD,hi]
   show -jP 8<=((List.range (vW F).length).map s.val).getD i 0/\((List.range (vW F).length).map s.val).getD i 0<=jP 8;rw[e];have:=fC 8;omega
def zD8(rs:List MX)(s:uE):List Value:=(List.range rs.length).flatMap fun r=>[.string ⟨(tK rs r).1.label.toArray⟩,.int .i64 (s.vd r)]
def zFA(Cs:List (Bs × Nat))(s:uE):List Value:=(List.range Cs.length).flatMap fun c=>[.string ⟨(Cs.getD c ([],0)).1.toArray⟩,.int .i64 (s.st c),.int .i64 (s.av c)]
def Zm(rs:List MX)(Cs:List (Bs × Nat))(s:uE)(w:World)(v n:Value):Prop:=(∃a c,v=.slice a rs.length c/\kG w 124 a (zD8 rs s))/\(∃a c,n=.slice a Cs.length c/\kG w 126 a (zFA Cs s))
theorem Zm.below{rs:List MX}{Cs:List (Bs × Nat)}{s:uE}{w w':World}{v n:Value}(h:Zm rs Cs s w v n)(hb:Below w.heap.size w w'):Zm rs Cs s w' v n:=by
 obtain⟨⟨a,c,e,h1⟩,⟨a',c',e',h2⟩⟩:=h;exact⟨⟨a,c,e,h1.below hb⟩,⟨a',c',e',h2.below hb⟩⟩
theorem Zm.keep{rs:List MX}{Cs:List (Bs × Nat)}{s:uE}{w:World}{v n:Value}(h:Zm rs Cs s w v n){B:Nat}(hB:w.heap[B]? = some (.cells #[.slice none 0 0,.slice none 0 0,.int .i64 0] 165 (0,0)))(x y z:Value):Zm rs Cs s (((w.setCell ⟨B,0,none⟩ x).setCell ⟨B,1,none⟩ y).setCell ⟨B,2,none⟩ z) v n:=by
 have q1:=heap_setCell_same w _ 0 _ _ x hB;have q2:=heap_setCell_same _ _ 1 _ _ y q1;obtain⟨⟨a,c,e,h1⟩,⟨a',c',e',h2⟩⟩:=h;exact⟨⟨a,c,e,((h1.set hB (by decide)).set q1 (by decide)).set q2 (by decide)⟩,⟨a',c',e',((h2.set hB (by decide)).set q1 (by decide)).set q2 (by decide)⟩⟩
theorem QA{w:World}{g n:Nat}{t:TypeId}{f:Nat->Value}{xs:List Value}(h:tI w g t n f)(hl:xs.length=n)(hx:∀j,j<n->xs[j]? = some (f j)):kG w t (some ⟨g,0,none⟩) xs:=by
 obtain⟨cs,h1,h2⟩:=h;exact .inr ⟨g,cs,_,rfl,h1,fun j hj=>by rw[h2 j (by omega),hx j (by omega)]⟩
theorem jo(rs:List MX)(s:uE)(j:Nat)(hj:j<2*rs.length):(zD8 rs s)[j]? = some (if j%2=0 then .string ⟨(tK rs (j/2)).1.label.toArray⟩ else .int .i64 (s.vd (j/2))):=by
 have h:=yO (fun r=>[Value.string ⟨(tK rs r).1.label.toArray⟩,.int .i64 (s.vd r)]) 2 (fun _=>rfl) 0 (List.range rs.length) (j/2) (j%2) (by simp;omega) (by omega);rw[show j/2*2+j%2=j by omega,fB rs.length (j/2) (by omega)]at h;unfold zD8;rw[h];by_cases h0:j%2=0
 ·rw[h0];rfl
 ·rw[show j%2=1 by omega];rfl
theorem zC4(Cs:List (Bs × Nat))(s:uE)(j:Nat)(hj:j<3*Cs.length):(zFA Cs s)[j]? = some (if j%3=0 then .string ⟨(Cs.getD (j/3) ([],0)).1.toArray⟩ else if j%3=1 then .int .i64 (s.st (j/3)) else .int .i64 (s.av (j/3))):=by
 have h:=yO (fun c=>[Value.string ⟨(Cs.getD c ([],0)).1.toArray⟩,.int .i64 (s.st c),.int .i64 (s.av c)]) 3 (fun _=>rfl) 0 (List.range Cs.length) (j/3) (j%3) (by simp;omega) (by omega);rw[show j/3*3+j%3=j by omega,fB Cs.length (j/3) (by omega)]at h;unfold zFA;rw[h];by_cases h0:j%3=0
 ·rw[h0];rfl
 ·rw[if_neg h0]
  by_cases h1:j%3=1
  ·rw[h1];rfl
  ·rw[if_neg h1,show j%3=2 by omega];rfl
theorem jn(rs:List MX)(s:uE):(zD8 rs s).length=2*rs.length:=by unfold zD8;rw[nZ _ 2 (fun _=>rfl)];simp;omega
theorem zC3(Cs:List (Bs × Nat))(s:uE):(zFA Cs s).length=3*Cs.length:=by unfold zFA;rw[nZ _ 3 (fun _=>rfl)];simp;omega
theorem zEW.out{A:mG}{rs:List MX}{Cs:List (Bs × Nat)}{w w':World}{e:Ending}(h:zEW A rs Cs w w' e):∃va vn vc na nn nc,e=.returned (.agg #[.slice va vn vc,.slice na nn nc])/\Zm rs Cs (uH A Cs.length Cs.length 0 h0) w' (.slice va vn vc) (.slice na nn nc)/\Below w.heap.size w w':=by
 obtain⟨K,k1,k2,k3,k4,rfl,hM,hb⟩:=h;refine⟨_,_,_,_,_,_,rfl,⟨⟨_,K.cD,by rw[k3],QA hM.rD (by rw[jn,k3]) fun j hj=>?_⟩,⟨_,K.cN,by rw[k4],QA hM.rN (by rw[zC3,k4]) fun j hj=>?_⟩⟩,hb⟩
 ·rw[jo rs _ j (by rw[<-k3];exact hj)];unfold zCN;rw[k1]
 ·rw[zC4 Cs _ j (by rw[<-k4];exact hj)];unfold ki;rw[k2]
theorem zCF(w:World)(b o:Nat)(ia:Option Addr)(ic il:Nat)(ra ca:Option Addr)(rc cc:Nat)(R C:Nat)(hR:R=0)(hC:C=0)(hc0:w.cell? ⟨b,o+1,none⟩=some (.slice ca C cc))(hr0:w.cell? ⟨b,o+2,none⟩=some (.slice ra R rc)) :
 Calls Tryz.prog 113 #[.pointer (some ⟨b,o,none⟩),.slice ia il ic] w fun e w'=>e=.returned (.agg #[.slice none 0 0,.slice none 0 0])/\Below w.heap.size w w':=by
 have iR:¬((0:Int)<(R:Int)):=by omega
 have iC:¬((0:Int)<(C:Int)):=by omega
 have hbl:=xJ hc0;have nb:w.heap.size≠b:=by omega
 have hmB:=run_make_row' (P:=Tryz.prog) 180 4 (.bool false) 1 Tryz.underlying180 mA rfl .i64 .i64 R (by omega) (by omega);have hmH:=run_make_row' (P:=Tryz.prog) 180 4 (.bool false) 1 Tryz.underlying180 mA rfl .i64 .i64 C (by omega) (by omega);have hmV:=run_make_row' (P:=Tryz.prog) 59 3 (.int .i64 0) 8 Tryz.underlying59 mX rfl .i64 .i64 C (by omega) (by omega);rw[tV]at hmB hmH;rw[dR]at hmV;clear hR hC;have HCr:Hid (∀wr,Below w.heap.size w wr->wr.cell? ⟨b,o+2,none⟩=some (.slice ra R rc)/\wr.cell? ⟨b,o+1,none⟩=some (.slice ca C cc)):=fun wr hb=>⟨by rw[hb.cell (p:=⟨b,o+2,none⟩) (xJ hr0)];exact hr0,by rw[hb.cell (p:=⟨b,o+1,none⟩) (xJ hc0)];exact hc0⟩
 go_enter Tryz.func113,Tryz.ntmps113
 go_upto_region 3 with fail
 obtain⟨w3,hw3⟩:∃w3,w3=((w.alloc (Obj.cells #[Value.slice none 0 0,Value.slice none 0 0] 163)).alloc (Obj.cells (gC (List.replicate R false)) 4)).alloc (Obj.cells #[Value.pointer (some ⟨b,o,none⟩),Value.slice none 0 0,Value.slice none 0 0,Value.slice none 0 0,Value.slice (some ⟨w.heap.size+1,0,none⟩) R R,Value.slice none 0 0,Value.slice none 0 0] 315):=⟨_,rfl⟩;rw[<-hw3];have x0:w3.heap[w.heap.size]? = some (Obj.cells #[Value.slice none 0 0,Value.slice none 0 0] 163):=by rw[hw3];exact zQ (zQ (zS _ _))
 have x1:w3.heap[w.heap.size+1]? = some (Obj.cells (gC (List.replicate R false)) 4):=by rw[hw3];exact zQ (uZ _ _ _ (by simp))
 have x2:w3.heap[w.heap.size+1+1]? = some (Obj.cells #[Value.pointer (some ⟨b,o,none⟩),Value.slice none 0 0,Value.slice none 0 0,Value.slice none 0 0,Value.slice (some ⟨w.heap.size+1,0,none⟩) R R,Value.slice none 0 0,Value.slice none 0 0] 315):=by rw[hw3];exact uZ _ _ _ (by simp)
 have hs3:w3.heap.size=w.heap.size+1+1+1:=by rw[hw3];simp
 have HB3:Hid (Below w.heap.size w w3):=by unfold Hid;rw[hw3];exact(((Below.refl _ _).alloc (Nat.le_refl _) _).alloc (by simp) _).alloc (by simp;omega) _
 have l2:w.heap.size+1+1<w3.heap.size:=by omega
 have HQ:Hid (∀A B:Obj,((w3.alloc A).alloc B).heap[w.heap.size+1+1]? = some (Obj.cells #[Value.pointer (some ⟨b,o,none⟩),Value.slice none 0 0,Value.slice none 0 0,Value.slice none 0 0,Value.slice (some ⟨w.heap.size+1,0,none⟩) R R,Value.slice none 0 0,Value.slice none 0 0] 315)):=fun A B=>zQ (zQ x2);have f21:∀A B:Obj,((w3.alloc A).alloc B).frozen? ⟨w.heap.size+1+1,1,none⟩=false:=fun A B=>by simp[World.frozen?,HQ.out A B]
 have f22:∀A B:Obj,((w3.alloc A).alloc B).frozen? ⟨w.heap.size+1+1,2,none⟩=false:=fun A B=>by simp[World.frozen?,HQ.out A B]
 have f23:∀A B:Obj,((w3.alloc A).alloc B).frozen? ⟨w.heap.size+1+1,3,none⟩=false:=fun A B=>by simp[World.frozen?,HQ.out A B]
 have c21:∀A B:Obj,((w3.alloc A).alloc B).cell? ⟨w.heap.size+1+1,1,none⟩=some (.slice none 0 0):=fun A B=>(zF (HQ.out A B) 1).trans rfl;have c22:∀A B:Obj,((w3.alloc A).alloc B).cell? ⟨w.heap.size+1+1,2,none⟩=some (.slice none 0 0):=fun A B=>(zF (HQ.out A B) 2).trans rfl;have c23:∀A B:Obj,((w3.alloc A).alloc B).cell? ⟨w.heap.size+1+1,3,none⟩=some (.slice none 0 0):=fun A B=>(zF (HQ.out A B) 3).trans rfl;clear hw3 hs3;have HX0:=zA x0;have HX1:=zA x1;have HX2:=zA x2
 go_cut [6] from 27 to 97 (fun v6 wx=>v6=.pointer (some ⟨w.heap.size+1+1,0,none⟩)/\∃gH gV,Hid (ZJ w wx b o (.slice ia il ic) R C gH gV (.slice none 0 0) (.slice none 0 0)))
 case first =>
  go_region
  all_goals
   go_wp2_with fail
   go_meet
  ·exact⟨rfl,w3.heap.size,w3.heap.size+1,zA (ZJ.fresh HX0.out HX1.out HX2.out HB3.out (((Below.refl _ _).alloc (Nat.le_refl _) _).alloc (by simp) _) (zQ (zS _ _)) (uZ _ _ _ (by simp)) (by omega) (by omega) (by omega))⟩
  ·exact⟨rfl,w3.heap.size+1,w3.heap.size,zA (ZJ.fresh HX0.out HX1.out HX2.out HB3.out (((Below.refl _ _).alloc (Nat.le_refl _) _).alloc (by simp) _) (uZ _ _ _ (by simp)) (zQ (zS _ _)) (by omega) (by omega) (by omega))⟩
 case rest =>
  obtain⟨rfl,gH,gV,HS⟩:=hcut;clear HX0 HX1 HX2 HB3 x0 x1 x2 l2 HQ f21 f22 f23 c21 c22 c23 hmB hmH hmV;obtain⟨m1,m2⟩:=HCr.out wc HS.out.bel;have hd:=HS.out.hd;unfold uq at hd;have d5:wc.cell? ⟨w.heap.size+1+1,5,none⟩=some (.slice none 0 0):=(zF hd 5).trans rfl;have d6:wc.cell? ⟨w.heap.size+1+1,6,none⟩=some (.slice none 0 0):=(zF hd 6).trans rfl;have hres:=HS.out.res;have z0:wc.cell? ⟨w.heap.size,0,none⟩=some (.slice none 0 0):=(zF hres 0).trans rfl;have z1:wc.cell? ⟨w.heap.size,1,none⟩=some (.slice none 0 0):=(zF hres 1).trans rfl;have y0:wc.frozen? ⟨w.heap.size,0,none⟩=false:=by simp[World.frozen?,hres]
  have y1:wc.frozen? ⟨w.heap.size,1,none⟩=false:=by simp[World.frozen?,hres]
  have HFr:Hid (((wc.setCell ⟨w.heap.size,0,none⟩ (.slice none 0 0)).setCell ⟨w.heap.size,1,none⟩ (.slice none 0 0)).heap[w.heap.size]? = some (.cells #[.slice none 0 0,.slice none 0 0] 163 (0,0))):=by
   have q1:=heap_setCell_same wc _ 0 _ _ (.slice none 0 0) hres;have q2:=heap_setCell_same _ _ 1 _ _ (.slice none 0 0) q1;unfold Hid;rw[q2];simp
  have HBf:Hid (Below w.heap.size w ((wc.setCell ⟨w.heap.size,0,none⟩ (.slice none 0 0)).setCell ⟨w.heap.size,1,none⟩ (.slice none 0 0))):=(HS.out.bel.setCell (by simp) _).setCell (by simp) _;clear hd hres;go_wp2_with fail
  go_loop [39] (fun iv=>iv=.int .i64 0) (fun _=>0)
  case atStart=>rfl
  case round =>
   obtain rfl:=hrel;go_wp2_with fail
   go_loop [59] (fun iv=>iv=.int .i64 0) (fun _=>0)
   case atStart=>rfl
   case round =>
    obtain rfl:=hrel;go_wp2_with fail
    go_loop [11] (fun iv=>iv=.int .i64 0) (fun _=>0)
    case atStart=>rfl
    case round =>
     obtain rfl:=hrel;go_wp2_with fail
     refine bodyPost_ret (v:=.agg #[.slice none 0 0,.slice none 0 0]) (results_cell_row Tryz.results113 _ _ w.heap.size 163 #[.slice none 0 0,.slice none 0 0] (0,0) _ rfl HFr.out Tryz.underlying163 rfl Vo) rfl ⟨rfl,HBf.out⟩
def Uy(n:Nat)(f:Nat->Bs)(g:Nat->Int):List Value:=(List.range n).flatMap fun i=>[.string ⟨(f i).toArray⟩,.int .i64 (g i)]
theorem BI{f g:Nat->List Value}(l:List Nat)(h:∀i∈l,f i=g i):l.flatMap f=l.flatMap g:=by
 induction l with
 | nil=>rfl
 | cons x r ih=>rw[List.flatMap_cons,List.flatMap_cons,h x (by simp),ih fun i hi=>h i (by simp[hi])]
theorem Dr{n:Nat}{f f':Nat->Bs}{g g':Nat->Int}(h:∀i,i<n->f i=f' i/\g i=g' i):Uy n f g=Uy n f' g' :=
 BI _ fun i hi=>by rw[(h i (List.mem_range.1 hi)).1,(h i (List.mem_range.1 hi)).2]
theorem GI(n:Nat)(f:Nat->Bs)(g:Nat->Int):Uy (n+1) f g=Uy n f g++[.string ⟨(f n).toArray⟩,.int .i64 (g n)]:=by
 unfold Uy;rw[List.range_succ,List.flatMap_append];simp
theorem zCM{w:World}{a:Option Addr}{n:Nat}{f:Nat->Bs}{g:Nat->Int}(h:dC w a (Uy n f g)){i:Nat}(hi:i<n):∃G,a=some ⟨G,0,none⟩/\w.cell? ⟨G,i*2,none⟩=some (.string ⟨(f i).toArray⟩)/\w.cell? ⟨G,i*2+1,none⟩=some (.int .i64 (g i)):=by
 have k:=fun r (hr:r<2)=>yO (fun i=>[Value.string ⟨(f i).toArray⟩,.int .i64 (g i)]) 2 (fun _=>rfl) 0 (List.range n) i r (by simpa using hi) hr;rw[fB n i hi]at k;obtain⟨G,e,c0⟩:=h.at (k 0 (by decide));obtain⟨G',e',c1⟩:=h.at (k 1 (by decide));obtain rfl:G=G':=by rw[e]at e';simpa using e'
 exact⟨G,e,c0,c1⟩
theorem YV(w:World)(a b:Option Addr)(c d n:Nat)(hn:n<=10000)(f:Nat->Bs)(g:Nat->Int)(h1:dC w a (Uy n f g))(h2:dC w b (Uy n f g)) :
 Calls Tryz.prog 33 #[.slice a n c,.slice b n d] w fun e w'=>e=.returned (.bool true)/\Below w.heap.size w w':=by
 have H1:=zA h1;have H2:=zA h2;clear h1 h2
 go_enter Tryz.func33,Tryz.ntmps33
 go_wp2_with fail
 go_loopw [5] (fun iv wr=>∃(i:Nat),i<=n/\iv=.int .i64 i/\Hid (Below w.heap.size w wr)) (fun iv _=>n-(intOf iv).toNat)
 case atStart=>exact⟨0,Nat.zero_le _,rfl,zA (Below.refl _ _)⟩
 case round =>
  obtain⟨i,hi,rfl,HB⟩:=hrel;by_cases zFZ:i<n
  ·obtain⟨g1,rfl,c1,c2⟩:=zCM (H1.out.below HB.out) zFZ
   obtain⟨g2,rfl,c3,c4⟩:=zCM (H2.out.below HB.out) zFZ;generalize f i=s at *;generalize g i=sv at *;go_wp2_with fail
   go_quiet (fail)
   go_wp2_with fail
   go_roundw
   case rel=>exact⟨i+1,by omega,by go_num,zA (yE HB.out _)⟩
   case measure=>simp[intOf];omega
  ·go_wp2_with fail
   go_ret
   exact⟨rfl,HB.out⟩
theorem lE.inpF{w:World}{b:Nat}{F:List zH}{rs:List MX}(h:lE w b F rs):zFX w b 1 (yJ F):=by
 obtain⟨iv,cv,rv,h1,h2⟩:=h.there;obtain⟨a,c,e,hc⟩:=h2.inp;obtain⟨-,g1,-,-⟩:=YG iv cv rv (yY (qG (yZ F) F gZ));exact⟨⟨a,c,by rw[<-e];exact(zF h1 1).trans g1,hc⟩,h2.few1⟩
theorem lE.modA{w:World}{b:Nat}{F:List zH}{rs:List MX}(h:lE w b F rs)(hc:vT F):iP F rs:=⟨hc,h.rul⟩
theorem iP.few{F:List zH}{rs:List MX}(h:iP F rs):rs.length<=8/\(vW F).length<=rs.length/\(0<rs.length->0<(vW F).length):=by
 have h1:=h.len;have h2:=h.calm.rules;have h3:=XE F;rw[<-Zw]at h2 h3;rw[wX h.calm];refine⟨by omega,by omega,fun h0=>?_⟩;have:=(bP (ls:=F) (r:=0) (by omega)).2;omega
theorem lE.modF{w:World}{b:Nat}{F:List zH}{rs:List MX}(h:lE w b F rs)(hc:vT F){ia:Option Addr}{inp:List Int}(hi:qQ w ia inp):zFW w b 1 ia inp rs (yY (qG (yZ F) F gZ)) (vW F):=by
 obtain⟨iv,cv,rv,h1,h2⟩:=h.there;obtain⟨a,c,e,hcc⟩:=h2.con;obtain⟨a',c',e',hrr⟩:=h2.rul;obtain⟨-,-,g2,g3,g4⟩:=YG iv cv rv (yY (qG (yZ F) F gZ));obtain⟨f1,f2,-⟩:=(h.modA hc).few;have hG:(yY (qG (yZ F) F gZ)).length=64:=by unfold yY;rw[rS,lK];exact xP
 refine⟨⟨a,c,by rw[<-e];exact(zF h1 2).trans g2,hcc⟩,⟨a',c',by rw[<-e'];exact(zF h1 3).trans g3,hrr⟩,h2.rows,fun k hk=>?_,hi,by omega,by omega⟩;rw[show 1+3+k=4+k by omega];exact(zF h1 (4+k)).trans (g4 k (by omega))
theorem Gt(w:World)(b:Nat)(F:List zH)(rs:List MX)(f:Bs)(zGO:f.length<=maxLen)(hB:lE w b F rs)(hc:vT F)(hs:(yN (yJ F) f).2=0->Zk F (yN (yJ F) f).1) :
 Calls Tryz.prog 66 #[.pointer (some ⟨b,0,none⟩),.string ⟨f.toArray⟩] w fun e w'=>Cq (yN (yJ F) f).2 (Zm rs (vW F) (uH (xE F (yN (yJ F) f).1 hc) (vW F).length (vW F).length 0 h0)) w w' e:=by
 have h0:w.cell? ⟨b,0,none⟩=some (.bool true):=by
  obtain⟨iv,cv,rv,h1,_⟩:=hB.there;exact(zF h1 0).trans (YG iv cv rv _).1
 have hA:=hB.modA hc;obtain⟨f1,f2,f3⟩:=hA.few;refine zEC w b f (yJ F) _ h0 (fun w' hb=>zCK w' f zGO b 1 (yJ F) (hB.below hb).inpF) (fun w' ia ic hk hb hi=>?_) (fun w' B v n ho hR a c d=>ho.keep hR a c d);have hF:=(hB.below hb).modF hc hi;by_cases hR:0<rs.length
 ·refine(Of_s w' b 1 ia ic _ rs _ (vW F) hF hR (f3 hR) (xE F (yN (yJ F) f).1 hc) (fun K k1 k2 k3=>hA.hear _ K k1 k2 k3) (hA.lev _) (hA.nm _) (hA.ok (hs hk))).mono ?_
  intro e w'' h;exact h.out
 ·obtain⟨ca,cc,hc0,_⟩:=hF.con
  obtain⟨ra,rc,hr0,_⟩:=hF.rul;have e1:rs.length=0:=by omega
  have e2:(vW F).length=0:=by omega
  refine(zCF w' b 1 ia ic _ ra ca rc cc rs.length (vW F).length e1 e2 hc0 hr0).mono ?_;rintro e w'' ⟨rfl,hb'⟩;refine⟨none,0,0,none,0,0,rfl,⟨⟨none,0,by rw[e1],.inl ?_⟩,⟨none,0,by rw[e2],.inl ?_⟩⟩,hb'⟩
  ·unfold zD8;rw[e1];rfl
  ·unfold zFA;rw[e2];rfl
theorem Cf(w:World)(b:Nat)(F:List zH)(rs:List MX)(f:Bs)(zGO:f.length<=maxLen)(hB:lE w b F rs)(hc:vT F)(hs:(yN (yJ F) f).2=0->Zk F (yN (yJ F) f).1) :
 Calls Tryz.prog 31 #[.pointer (some ⟨b,0,none⟩),.string ⟨f.toArray⟩] w fun e w'=>∃va vn vc na nn nc,e=.returned (.tuple #[.slice va vn vc,.int .i64 (yN (yJ F) f).2])/\((yN (yJ F) f).2≠0->va=none/\vn=0)/\((yN (yJ F) f).2=0->Zm rs (vW F) (uH (xE F (yN (yJ F) f).1 hc) (vW F).length (vW F).length 0 h0) w' (.slice va vn vc) (.slice na nn nc))/\Below w.heap.size w w' :=
 ja w b f _ _ (fun _ _ _ _ h hb=>h.below hb) (Gt w b F rs f zGO hB hc hs)
end Go.Proofs.YtnbpdffdnphbeaaGreatDoor
