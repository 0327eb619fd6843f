import Derived.Test.YtnbpdffdnphbeaaGreatDoorMOf
import Derived.Test.YtnbpdffdnphbeaaGreatDoorMLoad
set_option maxHeartbeats 4000000
set_option maxRecDepth 100000
namespace Go.Proofs.YtnbpdffdnphbeaaGreatDoor
open Go.RowKit
structure iS(F:List zH)(rs:List MX):Prop where
 calm:vU F
 rul:rs.map Prod.fst=pQ ((yJ F).map yU.name) ((vR F).map Prod.fst) F
theorem Fc{F:List zH}(h:vU F):(vR F).map Prod.fst=zI F:=by
 rw[Xy F h.heads h.nam];unfold Jc;rw[List.map_map];refine List.ext_getElem (by simp) fun i h1 h2=>?_;simp only[List.getElem_map,List.getElem_range,Function.comp];rw[List.getD_eq_getElem?_getD,List.getElem?_eq_getElem h2];rfl
theorem gF{F:List zH}(h:vU F):(vR F).length=(zI F).length:=by rw[Xy F h.heads h.nam,FT]
theorem x9{F:List zH}(h:vU F){c:Nat}(hc:c<(zI F).length):(vR F).getD c ([],0)=((zI F).getD c [],fU (kE (zI F) F gZ) c):=by
 rw[Xy F h.heads h.nam];unfold Jc;simp[List.getD,hc]
theorem iS.len{F:List zH}{rs:List MX}(h:iS F rs):rs.length=(tR F).length:=by
 have:=congrArg List.length h.rul;rw[List.length_map,Q6,List.length_map]at this;exact this
theorem iS.at{F:List zH}{rs:List MX}(h:iS F rs){r:Nat}(hr:r<rs.length):(tN rs r).1=Z2 F r:=by
 have e:=congrArg (fun l=>l[r]?) h.rul;rw[Q6,Fc h.calm,List.getElem?_map,List.getElem?_map]at e;have hr2:r<(tR F).length:=by rw[<-h.len];exact hr
 rw[List.getElem?_eq_getElem hr,List.getElem?_eq_getElem hr2]at e;simp only[Option.map_some,Option.some.injEq]at e;unfold tN Z2;rw[List.getD_eq_getElem?_getD,List.getElem?_eq_getElem hr,List.getD_eq_getElem?_getD,List.getElem?_eq_getElem hr2];exact e
theorem iS.hear{F:List zH}{rs:List MX}(h:iS F rs)(inp:List Int)(K:HK)(k1:K.R=rs.length)(k2:K.C=(vR F).length)(k3:K.inp=inp):Dj K (xE F inp h.calm) rs (yZ (qG (xA F) F gZ)):=by
 have hl:=h.len;have h8:=h.calm.rules;rw[<-YZ,<-hl,<-k1]at h8;have kC:K.C=(zI F).length:=by rw[k2,gF h.calm]
 refine⟨by rw[k1,hl];rfl,fun r hr=>?_,fun r hr f v=>?_,fun r hr hh f=>?_,fun k r hk hr=>?_⟩
 ·rw[h.at (by omega)]
  exact(bP (by omega)).1
 ·rw[h.at (by omega),k3,kC]
  exact XS (Z2 F r) _ inp v [] f f (fun _ _=>rfl)
 ·rw[h.at (by omega),k3,kC]
  exact YN (Z2 F r) _ inp hh [] f f (fun _ _=>rfl)
 ·rw[Jk]
  unfold XE;simp only[Int.toNat_natCast];rw[decide_eq_true (by omega),decide_eq_true (by omega),decide_eq_true (by omega),decide_eq_true (by omega)];simp
theorem iS.lev{F:List zH}{rs:List MX}(h:iS F rs)(inp:List Int):∀c,c<(vR F).length->(xE F inp h.calm).lev c=((vR F).getD c ([],0)).2:=fun c hc=>by
 rw[gF h.calm]at hc;rw[x9 h.calm hc];rfl
theorem iS.nm{F:List zH}{rs:List MX}(h:iS F rs)(inp:List Int):∀r c,r<(xE F inp h.calm).n->(xE F inp h.calm).nm r c->c<(vR F).length:=fun r c hr hn=>by
 rw[gF h.calm];exact(Bf h.calm hr hn).1
theorem UO:∀a b,a<=b->jP a<=jP b:=by
 intro a b h
 induction h with
 | refl=>exact Int.le_refl _
 | step h ih=>rw[jP];rename_i m;have:=fC m;omega
theorem iS.ok{F:List zH}{rs:List MX}(h:iS F rs){inp:List Int}(hs:Zl F inp):∀S s,tJ (xE F inp h.calm) S s->∀r,r<rs.length->Zu ⟨inp,(List.range (vR F).length).map s.has,(List.range (vR F).length).map s.val⟩ (tN rs r).1.sum:=fun S s ho r hr=>by
 have hr2:r<(tR F).length:=by rw[<-h.len];exact hr
 rw[h.at hr];obtain⟨m1,m2⟩:=Br h.calm hs hr2;have h9:9*jP 8<=tO:=by decide
 refine QC (fC 8) h9 (fun i=>?_) (fun i=>?_) m1 m2
 ·have:=hs.inp i;have:=fC 8
  show -jP 8<=inp.getD i 0/\inp.getD i 0<=jP 8;omega
 ·by_cases hi:i<(vR F).length
  ·have e:((List.range (vR F).length).map s.val).getD i 0=s.val i:=by simp[List.getD,hi]
   show -jP 8<=((List.range (vR F).length).map s.val).getD i 0/\((List.range (vR F).length).map s.val).getD i 0<=jP 8;rw[e];by_cases hS:S i
   ·rw[(ho.val i).1 hS]
    have hb:=XV h.calm hs ((xE F inp h.calm).lev i+1) i
    have hlv:(xE F inp h.calm).lev i+1<=8:=by
     have:fU (kE (zI F) F gZ) i<=7:=QP _ 7 i;show fU (kE (zI F) F gZ) i+1<=8;omega
    have:=UO _ _ hlv;omega
   ·rw[(ho.val i).2 hS];have:=fC 8;omega
  ·have e:((List.range (vR F).length).map s.val).getD i 0=0:=by simp[List.getD,hi]
   show -jP 8<=((List.range (vR F).length).map s.val).getD i 0/\((List.range (vR F).length).map s.val).getD i 0<=jP 8;rw[e];have:=fC 8;omega
def zF2(rs:List MX)(s:uF):List Value:=(List.range rs.length).flatMap fun r=>[.string ⟨(tN rs r).1.label.toArray⟩,.int .i64 (s.vd r)]
def zEN(Cs:List (Bs × Nat))(s:uF):List Value:=(List.range Cs.length).flatMap fun c=>[.string ⟨(Cs.getD c ([],0)).1.toArray⟩,.int .i64 (s.st c),.int .i64 (s.av c)]
def Zn(rs:List MX)(Cs:List (Bs × Nat))(s:uF)(w:World)(v n:Value):Prop:=(∃a c,v=.slice a rs.length c/\kG w 124 a (zF2 rs s))/\(∃a c,n=.slice a Cs.length c/\kG w 126 a (zEN Cs s))
theorem Zn.below{rs:List MX}{Cs:List (Bs × Nat)}{s:uF}{w w':World}{v n:Value}(h:Zn rs Cs s w v n)(hb:Below w.heap.size w w'):Zn rs Cs s w' v n:=by
 obtain⟨⟨a,c,e,h1⟩,⟨a',c',e',h2⟩⟩:=h;exact⟨⟨a,c,e,h1.below hb⟩,⟨a',c',e',h2.below hb⟩⟩
theorem Zn.keep{rs:List MX}{Cs:List (Bs × Nat)}{s:uF}{w:World}{v n:Value}(h:Zn rs Cs s w v n){B:Nat}(hB:w.heap[B]? = some (.cells #[.slice none 0 0,.slice none 0 0,.int .i64 0] 165 (0,0)))(x y z:Value):Zn rs Cs s (((w.setCell ⟨B,0,none⟩ x).setCell ⟨B,1,none⟩ y).setCell ⟨B,2,none⟩ z) v n:=by
 have q1:=heap_setCell_same w _ 0 _ _ x hB;have q2:=heap_setCell_same _ _ 1 _ _ y q1;obtain⟨⟨a,c,e,h1⟩,⟨a',c',e',h2⟩⟩:=h;exact⟨⟨a,c,e,((h1.set hB (by decide)).set q1 (by decide)).set q2 (by decide)⟩,⟨a',c',e',((h2.set hB (by decide)).set q1 (by decide)).set q2 (by decide)⟩⟩
theorem QA{w:World}{g n:Nat}{t:TypeId}{f:Nat->Value}{xs:List Value}(h:tI w g t n f)(hl:xs.length=n)(hx:∀j,j<n->xs[j]? = some (f j)):kG w t (some ⟨g,0,none⟩) xs:=by
 obtain⟨cs,h1,h2⟩:=h;exact .inr ⟨g,cs,_,rfl,h1,fun j hj=>by rw[h2 j (by omega),hx j (by omega)]⟩
theorem jm(rs:List MX)(s:uF)(j:Nat)(hj:j<2*rs.length):(zF2 rs s)[j]? = some (if j%2=0 then .string ⟨(tN rs (j/2)).1.label.toArray⟩ else .int .i64 (s.vd (j/2))):=by
 have h:=yQ (fun r=>[Value.string ⟨(tN rs r).1.label.toArray⟩,.int .i64 (s.vd r)]) 2 (fun _=>rfl) 0 (List.range rs.length) (j/2) (j%2) (by simp;omega) (by omega);rw[show j/2*2+j%2=j by omega,fB rs.length (j/2) (by omega)]at h;unfold zF2;rw[h];by_cases h0:j%2=0
 ·rw[h0];rfl
 ·rw[show j%2=1 by omega];rfl
theorem zC3(Cs:List (Bs × Nat))(s:uF)(j:Nat)(hj:j<3*Cs.length):(zEN Cs s)[j]? = some (if j%3=0 then .string ⟨(Cs.getD (j/3) ([],0)).1.toArray⟩ else if j%3=1 then .int .i64 (s.st (j/3)) else .int .i64 (s.av (j/3))):=by
 have h:=yQ (fun c=>[Value.string ⟨(Cs.getD c ([],0)).1.toArray⟩,.int .i64 (s.st c),.int .i64 (s.av c)]) 3 (fun _=>rfl) 0 (List.range Cs.length) (j/3) (j%3) (by simp;omega) (by omega);rw[show j/3*3+j%3=j by omega,fB Cs.length (j/3) (by omega)]at h;unfold zEN;rw[h];by_cases h0:j%3=0
 ·rw[h0];rfl
 ·rw[if_neg h0]
  by_cases h1:j%3=1
  ·rw[h1];rfl
  ·rw[if_neg h1,show j%3=2 by omega];rfl
theorem jl(rs:List MX)(s:uF):(zF2 rs s).length=2*rs.length:=by unfold zF2;rw[oA _ 2 (fun _=>rfl)];simp;omega
theorem zC2(Cs:List (Bs × Nat))(s:uF):(zEN Cs s).length=3*Cs.length:=by unfold zEN;rw[oA _ 3 (fun _=>rfl)];simp;omega
theorem zEW.out{A:mG}{rs:List MX}{Cs:List (Bs × Nat)}{w w':World}{e:Ending}(h:zEW A rs Cs w w' e):∃va vn vc na nn nc,e=.returned (.agg #[.slice va vn vc,.slice na nn nc])/\Zn rs Cs (uC A Cs.length Cs.length 0 h0) w' (.slice va vn vc) (.slice na nn nc)/\Below w.heap.size w w':=by
 obtain⟨K,k1,k2,k3,k4,rfl,hM,hb⟩:=h;refine⟨_,_,_,_,_,_,rfl,⟨⟨_,K.cD,by rw[k3],QA hM.rD (by rw[jl,k3]) fun j hj=>?_⟩,⟨_,K.cN,by rw[k4],QA hM.rN (by rw[zC2,k4]) fun j hj=>?_⟩⟩,hb⟩
 ·rw[jm rs _ j (by rw[<-k3];exact hj)];unfold zCN;rw[k1]
 ·rw[zC3 Cs _ j (by rw[<-k4];exact hj)];unfold ki;rw[k2]
theorem zCF(w:World)(b o:Nat)(ia:Option Addr)(ic il:Nat)(ra ca:Option Addr)(rc cc:Nat)(R C:Nat)(hR:R=0)(hC:C=0)(hc0:w.cell? ⟨b,o+1,none⟩=some (.slice ca C cc))(hr0:w.cell? ⟨b,o+2,none⟩=some (.slice ra R rc)) :
 Calls Tryz.prog 113 #[.pointer (some ⟨b,o,none⟩),.slice ia il ic] w fun e w'=>e=.returned (.agg #[.slice none 0 0,.slice none 0 0])/\Below w.heap.size w w':=by
 have iR:¬((0:Int)<(R:Int)):=by omega
 have iC:¬((0:Int)<(C:Int)):=by omega
 have hbl:=xJ hc0;have nb:w.heap.size≠b:=by omega
 have hmB:=run_make_row' (P:=Tryz.prog) 180 4 (.bool false) 1 Tryz.underlying180 mA rfl .i64 .i64 R (by omega) (by omega);have hmH:=run_make_row' (P:=Tryz.prog) 180 4 (.bool false) 1 Tryz.underlying180 mA rfl .i64 .i64 C (by omega) (by omega);have hmV:=run_make_row' (P:=Tryz.prog) 59 3 (.int .i64 0) 8 Tryz.underlying59 mX rfl .i64 .i64 C (by omega) (by omega);rw[tV]at hmB hmH;rw[dR]at hmV;clear hR hC;have HCr:Hid (∀wr,Below w.heap.size w wr->wr.cell? ⟨b,o+2,none⟩=some (.slice ra R rc)/\wr.cell? ⟨b,o+1,none⟩=some (.slice ca C cc)):=fun wr hb=>⟨by rw[hb.cell (p:=⟨b,o+2,none⟩) (xJ hr0)];exact hr0,by rw[hb.cell (p:=⟨b,o+1,none⟩) (xJ hc0)];exact hc0⟩
 go_enter Tryz.func113,Tryz.ntmps113
 go_upto_region 3 with fail
 obtain⟨w3,hw3⟩:∃w3,w3=((w.alloc (Obj.cells #[Value.slice none 0 0,Value.slice none 0 0] 163)).alloc (Obj.cells (gC (List.replicate R false)) 4)).alloc (Obj.cells #[Value.pointer (some ⟨b,o,none⟩),Value.slice none 0 0,Value.slice none 0 0,Value.slice none 0 0,Value.slice (some ⟨w.heap.size+1,0,none⟩) R R,Value.slice none 0 0,Value.slice none 0 0] 315):=⟨_,rfl⟩;rw[<-hw3];have x0:w3.heap[w.heap.size]? = some (Obj.cells #[Value.slice none 0 0,Value.slice none 0 0] 163):=by rw[hw3];exact zQ (zQ (zS _ _))
 have x1:w3.heap[w.heap.size+1]? = some (Obj.cells (gC (List.replicate R false)) 4):=by rw[hw3];exact zQ (uZ _ _ _ (by simp))
 have x2:w3.heap[w.heap.size+1+1]? = some (Obj.cells #[Value.pointer (some ⟨b,o,none⟩),Value.slice none 0 0,Value.slice none 0 0,Value.slice none 0 0,Value.slice (some ⟨w.heap.size+1,0,none⟩) R R,Value.slice none 0 0,Value.slice none 0 0] 315):=by rw[hw3];exact uZ _ _ _ (by simp)
 have hs3:w3.heap.size=w.heap.size+1+1+1:=by rw[hw3];simp
 have HB3:Hid (Below w.heap.size w w3):=by unfold Hid;rw[hw3];exact(((Below.refl _ _).alloc (Nat.le_refl _) _).alloc (by simp) _).alloc (by simp;omega) _
 have l2:w.heap.size+1+1<w3.heap.size:=by omega
 have HQ:Hid (∀A B:Obj,((w3.alloc A).alloc B).heap[w.heap.size+1+1]? = some (Obj.cells #[Value.pointer (some ⟨b,o,none⟩),Value.slice none 0 0,Value.slice none 0 0,Value.slice none 0 0,Value.slice (some ⟨w.heap.size+1,0,none⟩) R R,Value.slice none 0 0,Value.slice none 0 0] 315)):=fun A B=>zQ (zQ x2);have f21:∀A B:Obj,((w3.alloc A).alloc B).frozen? ⟨w.heap.size+1+1,1,none⟩=false:=fun A B=>by simp[World.frozen?,HQ.out A B]
 have f22:∀A B:Obj,((w3.alloc A).alloc B).frozen? ⟨w.heap.size+1+1,2,none⟩=false:=fun A B=>by simp[World.frozen?,HQ.out A B]
 have f23:∀A B:Obj,((w3.alloc A).alloc B).frozen? ⟨w.heap.size+1+1,3,none⟩=false:=fun A B=>by simp[World.frozen?,HQ.out A B]
 have c21:∀A B:Obj,((w3.alloc A).alloc B).cell? ⟨w.heap.size+1+1,1,none⟩=some (.slice none 0 0):=fun A B=>(zF (HQ.out A B) 1).trans rfl;have c22:∀A B:Obj,((w3.alloc A).alloc B).cell? ⟨w.heap.size+1+1,2,none⟩=some (.slice none 0 0):=fun A B=>(zF (HQ.out A B) 2).trans rfl;have c23:∀A B:Obj,((w3.alloc A).alloc B).cell? ⟨w.heap.size+1+1,3,none⟩=some (.slice none 0 0):=fun A B=>(zF (HQ.out A B) 3).trans rfl;clear hw3 hs3;have HX0:=zA x0;have HX1:=zA x1;have HX2:=zA x2
 go_cut [6] from 27 to 97 (fun v6 wx=>v6=.pointer (some ⟨w.heap.size+1+1,0,none⟩)/\∃gH gV,Hid (ZJ w wx b o (.slice ia il ic) R C gH gV (.slice none 0 0) (.slice none 0 0)))
 case first =>
  go_region
  all_goals
   go_wp2_with fail
   go_meet
  ·exact⟨rfl,w3.heap.size,w3.heap.size+1,zA (ZJ.fresh HX0.out HX1.out HX2.out HB3.out (((Below.refl _ _).alloc (Nat.le_refl _) _).alloc (by simp) _) (zQ (zS _ _)) (uZ _ _ _ (by simp)) (by omega) (by omega) (by omega))⟩
  ·exact⟨rfl,w3.heap.size+1,w3.heap.size,zA (ZJ.fresh HX0.out HX1.out HX2.out HB3.out (((Below.refl _ _).alloc (Nat.le_refl _) _).alloc (by simp) _) (uZ _ _ _ (by simp)) (zQ (zS _ _)) (by omega) (by omega) (by omega))⟩
 case rest =>
  obtain⟨rfl,gH,gV,HS⟩:=hcut;clear HX0 HX1 HX2 HB3 x0 x1 x2 l2 HQ f21 f22 f23 c21 c22 c23 hmB hmH hmV;obtain⟨m1,m2⟩:=HCr.out wc HS.out.bel;have hd:=HS.out.hd;unfold up at hd;have d5:wc.cell? ⟨w.heap.size+1+1,5,none⟩=some (.slice none 0 0):=(zF hd 5).trans rfl;have d6:wc.cell? ⟨w.heap.size+1+1,6,none⟩=some (.slice none 0 0):=(zF hd 6).trans rfl;have hres:=HS.out.res;have z0:wc.cell? ⟨w.heap.size,0,none⟩=some (.slice none 0 0):=(zF hres 0).trans rfl;have z1:wc.cell? ⟨w.heap.size,1,none⟩=some (.slice none 0 0):=(zF hres 1).trans rfl;have y0:wc.frozen? ⟨w.heap.size,0,none⟩=false:=by simp[World.frozen?,hres]
  have y1:wc.frozen? ⟨w.heap.size,1,none⟩=false:=by simp[World.frozen?,hres]
  have HFr:Hid (((wc.setCell ⟨w.heap.size,0,none⟩ (.slice none 0 0)).setCell ⟨w.heap.size,1,none⟩ (.slice none 0 0)).heap[w.heap.size]? = some (.cells #[.slice none 0 0,.slice none 0 0] 163 (0,0))):=by
   have q1:=heap_setCell_same wc _ 0 _ _ (.slice none 0 0) hres;have q2:=heap_setCell_same _ _ 1 _ _ (.slice none 0 0) q1;unfold Hid;rw[q2];simp
  have HBf:Hid (Below w.heap.size w ((wc.setCell ⟨w.heap.size,0,none⟩ (.slice none 0 0)).setCell ⟨w.heap.size,1,none⟩ (.slice none 0 0))):=(HS.out.bel.setCell (by simp) _).setCell (by simp) _;clear hd hres;go_wp2_with fail
  go_loop [39] (fun iv=>iv=.int .i64 0) (fun _=>0)
  case atStart=>rfl
  case round =>
   obtain rfl:=hrel;go_wp2_with fail
   go_loop [59] (fun iv=>iv=.int .i64 0) (fun _=>0)
   case atStart=>rfl
   case round =>
    obtain rfl:=hrel;go_wp2_with fail
    go_loop [11] (fun iv=>iv=.int .i64 0) (fun _=>0)
    case atStart=>rfl
    case round =>
     obtain rfl:=hrel;go_wp2_with fail
     refine bodyPost_ret (v:=.agg #[.slice none 0 0,.slice none 0 0]) (results_cell_row Tryz.results113 _ _ w.heap.size 163 #[.slice none 0 0,.slice none 0 0] (0,0) _ rfl HFr.out Tryz.underlying163 rfl Vn) rfl ⟨rfl,HBf.out⟩
def Ci(n:Nat)(f:Nat->Bs)(g h:Nat->Int):List Value:=(List.range n).flatMap fun i=>[.string ⟨(f i).toArray⟩,.int .i64 (g i),.int .i64 (h i)]
theorem BG{f g:Nat->List Value}(l:List Nat)(h:∀i∈l,f i=g i):l.flatMap f=l.flatMap g:=by
 induction l with
 | nil=>rfl
 | cons x r ih=>rw[List.flatMap_cons,List.flatMap_cons,h x (by simp),ih fun i hi=>h i (by simp[hi])]
theorem Gv{n:Nat}{f f':Nat->Bs}{g g' k k':Nat->Int}(h:∀i,i<n->f i=f' i/\g i=g' i/\k i=k' i):Ci n f g k=Ci n f' g' k' :=
 BG _ fun i hi=>by rw[(h i (List.mem_range.1 hi)).1,(h i (List.mem_range.1 hi)).2.1,(h i (List.mem_range.1 hi)).2.2]
theorem ke(n:Nat)(f:Nat->Bs)(g h:Nat->Int):Ci (n+1) f g h=Ci n f g h++[.string ⟨(f n).toArray⟩,.int .i64 (g n),.int .i64 (h n)]:=by
 unfold Ci;rw[List.range_succ,List.flatMap_append];simp
theorem zCX{w:World}{a:Option Addr}{n:Nat}{f:Nat->Bs}{g k:Nat->Int}(h:dC w a (Ci n f g k)){i:Nat}(hi:i<n):∃G,a=some ⟨G,0,none⟩/\w.cell? ⟨G,i*3,none⟩=some (.string ⟨(f i).toArray⟩)/\w.cell? ⟨G,i*3+1,none⟩=some (.int .i64 (g i))/\w.cell? ⟨G,i*3+2,none⟩=some (.int .i64 (k i)):=by
 have q:=fun r (hr:r<3)=>yQ (fun i=>[Value.string ⟨(f i).toArray⟩,.int .i64 (g i),.int .i64 (k i)]) 3 (fun _=>rfl) 0 (List.range n) i r (by simpa using hi) hr;rw[fB n i hi]at q;obtain⟨G,e,c0⟩:=h.at (q 0 (by decide));obtain⟨G',e',c1⟩:=h.at (q 1 (by decide));obtain⟨G'',e'',c2⟩:=h.at (q 2 (by decide));obtain rfl:G=G':=by rw[e]at e';simpa using e'
 obtain rfl:G=G'':=by rw[e]at e'';simpa using e''
 exact⟨G,e,c0,c1,c2⟩
theorem Qh(w:World)(a b:Option Addr)(c d n:Nat)(hn:n<=10000)(f:Nat->Bs)(g k:Nat->Int)(h1:dC w a (Ci n f g k))(h2:dC w b (Ci n f g k)) :
 Calls Tryz.prog 36 #[.slice a n c,.slice b n d] w fun e w'=>e=.returned (.bool true)/\Below w.heap.size w w':=by
 have H1:=zA h1;have H2:=zA h2;clear h1 h2
 go_enter Tryz.func36,Tryz.ntmps36
 go_wp2_with fail
 go_loopw [5] (fun iv wr=>∃(i:Nat),i<=n/\iv=.int .i64 i/\Hid (Below w.heap.size w wr)) (fun iv _=>n-(intOf iv).toNat)
 case atStart=>exact⟨0,Nat.zero_le _,rfl,zA (Below.refl _ _)⟩
 case round =>
  obtain⟨i,hi,rfl,HB⟩:=hrel;by_cases zFY:i<n
  ·obtain⟨g1,rfl,c1,c2,c5⟩:=zCX (H1.out.below HB.out) zFY
   obtain⟨g2,rfl,c3,c4,c6⟩:=zCX (H2.out.below HB.out) zFY;generalize f i=s at *;generalize g i=sv at *;generalize k i=kv at *;go_wp2_with fail
   go_quiet (fail)
   go_wp2_with fail
   go_roundw
   case rel=>exact⟨i+1,by omega,by go_num,zA (yE HB.out _)⟩
   case measure=>simp[intOf];omega
  ·go_wp2_with fail
   go_ret
   exact⟨rfl,HB.out⟩
theorem lE.inpF{w:World}{b:Nat}{F:List zH}{rs:List MX}(h:lE w b F rs):zFW w b 1 (yJ F):=by
 obtain⟨iv,cv,rv,h1,h2⟩:=h.there;obtain⟨a,c,e,hc⟩:=h2.inp;obtain⟨-,g1,-,-⟩:=YF iv cv rv (yZ (qG (xA F) F gZ));exact⟨⟨a,c,by rw[<-e];exact(zF h1 1).trans g1,hc⟩,h2.few1⟩
theorem lE.modA{w:World}{b:Nat}{F:List zH}{rs:List MX}(h:lE w b F rs)(hc:vU F):iS F rs:=⟨hc,h.rul⟩
theorem iS.few{F:List zH}{rs:List MX}(h:iS F rs):rs.length<=8/\(vR F).length<=rs.length/\(0<rs.length->0<(vR F).length):=by
 have h1:=h.len;have h2:=h.calm.rules;have h3:=XD F;rw[<-YZ]at h2 h3;rw[gF h.calm];refine⟨by omega,by omega,fun h0=>?_⟩;have:=(bP (ls:=F) (r:=0) (by omega)).2;omega
theorem lE.modF{w:World}{b:Nat}{F:List zH}{rs:List MX}(h:lE w b F rs)(hc:vU F){ia:Option Addr}{inp:List Int}(hi:qQ w ia inp):zFV w b 1 ia inp rs (yZ (qG (xA F) F gZ)) (vR F):=by
 obtain⟨iv,cv,rv,h1,h2⟩:=h.there;obtain⟨a,c,e,hcc⟩:=h2.con;obtain⟨a',c',e',hrr⟩:=h2.rul;obtain⟨-,-,g2,g3,g4⟩:=YF iv cv rv (yZ (qG (xA F) F gZ));obtain⟨f1,f2,-⟩:=(h.modA hc).few;have hG:(yZ (qG (xA F) F gZ)).length=64:=by unfold yZ;rw[rU,lK];exact xP
 refine⟨⟨a,c,by rw[<-e];exact(zF h1 2).trans g2,hcc⟩,⟨a',c',by rw[<-e'];exact(zF h1 3).trans g3,hrr⟩,h2.rows,fun k hk=>?_,hi,by omega,by omega⟩;rw[show 1+3+k=4+k by omega];exact(zF h1 (4+k)).trans (g4 k (by omega))
theorem Gp(w:World)(b:Nat)(F:List zH)(rs:List MX)(f:Bs)(zGN:f.length<=maxLen)(hB:lE w b F rs)(hc:vU F)(hs:(yM (yJ F) f).2=0->Zl F (yM (yJ F) f).1) :
 Calls Tryz.prog 66 #[.pointer (some ⟨b,0,none⟩),.string ⟨f.toArray⟩] w fun e w'=>Cp (yM (yJ F) f).2 (Zn rs (vR F) (uC (xE F (yM (yJ F) f).1 hc) (vR F).length (vR F).length 0 h0)) w w' e:=by
 have h0:w.cell? ⟨b,0,none⟩=some (.bool true):=by
  obtain⟨iv,cv,rv,h1,_⟩:=hB.there;exact(zF h1 0).trans (YF iv cv rv _).1
 have hA:=hB.modA hc;obtain⟨f1,f2,f3⟩:=hA.few;refine zEB w b f (yJ F) _ h0 (fun w' hb=>zCK w' f zGN b 1 (yJ F) (hB.below hb).inpF) (fun w' ia ic hk hb hi=>?_) (fun w' B v n ho hR a c d=>ho.keep hR a c d);have hF:=(hB.below hb).modF hc hi;by_cases hR:0<rs.length
 ·refine(Of_s w' b 1 ia ic _ rs _ (vR F) hF hR (f3 hR) (xE F (yM (yJ F) f).1 hc) (fun K k1 k2 k3=>hA.hear _ K k1 k2 k3) (hA.lev _) (hA.nm _) (hA.ok (hs hk))).mono ?_
  intro e w'' h;exact h.out
 ·obtain⟨ca,cc,hc0,_⟩:=hF.con
  obtain⟨ra,rc,hr0,_⟩:=hF.rul;have e1:rs.length=0:=by omega
  have e2:(vR F).length=0:=by omega
  refine(zCF w' b 1 ia ic _ ra ca rc cc rs.length (vR F).length e1 e2 hc0 hr0).mono ?_;rintro e w'' ⟨rfl,hb'⟩;refine⟨none,0,0,none,0,0,rfl,⟨⟨none,0,by rw[e1],.inl ?_⟩,⟨none,0,by rw[e2],.inl ?_⟩⟩,hb'⟩
  ·unfold zF2;rw[e1];rfl
  ·unfold zEN;rw[e2];rfl
theorem Gq(w:World)(b:Nat)(F:List zH)(rs:List MX)(f:Bs)(zGN:f.length<=maxLen)(hB:lE w b F rs)(hc:vU F)(hs:(yM (yJ F) f).2=0->Zl F (yM (yJ F) f).1) :
 Calls Tryz.prog 34 #[.pointer (some ⟨b,0,none⟩),.string ⟨f.toArray⟩] w fun e w'=>∃va vn vc na nn nc,e=.returned (.tuple #[.slice na nn nc,.int .i64 (yM (yJ F) f).2])/\((yM (yJ F) f).2≠0->na=none/\nn=0)/\((yM (yJ F) f).2=0->Zn rs (vR F) (uC (xE F (yM (yJ F) f).1 hc) (vR F).length (vR F).length 0 h0) w' (.slice va vn vc) (.slice na nn nc))/\Below w.heap.size w w' :=
 zCL w b f _ _ (fun _ _ _ _ h hb=>h.below hb) (Gp w b F rs f zGN hB hc hs)
end Go.Proofs.YtnbpdffdnphbeaaGreatDoor
