import Derived.Test.YtnbpdffdnphbeabGreatDoorDCel
import Derived.Deep.CutBlock
import Derived.Great.BuildSlice
set_option maxHeartbeats 10000000
set_option maxRecDepth 100000
namespace Go.Proofs.YtnbpdffdnphbeabGreatDoor
open Go.RowKit
variable{lab:Bs}{k ro n cc p:Int}{xs:List Value}{o b B:Nat}{t:TypeId}{gv v sv:Value}{w W:World}{y:qY}{x:xE}
structure XZ(w:World)(b o:Nat)(I:List zQ)(C:List (Bs × Nat)):Prop where
 inp:∃ia ic,w.cell? ⟨b,o,none⟩=some (.slice ia I.length ic)/\tZ w ia (I.flatMap uI)
 con:∃ca cc,w.cell? ⟨b,o+1,none⟩=some (.slice ca C.length cc)/\tZ w ca (C.flatMap zEB)
 few1:I.length<=10000
 few2:C.length<=10000
theorem XZ.below{w':World}{I:List zQ}{C:List (Bs × Nat)}(h:XZ w b o I C)(hb:Below w.heap.size w w'):XZ w' b o I C:=by
 obtain⟨ia,ic,h1,h2⟩:=h.inp;obtain⟨ca,cc,h3,h4⟩:=h.con;exact⟨⟨ia,ic,by rw[hb.cell (p:=⟨b,o,none⟩) (yQ h1)];exact h1,h2.below hb⟩,⟨ca,cc,by rw[hb.cell (p:=⟨b,o+1,none⟩) (yQ h3)];exact h3,h4.below hb⟩,h.few1,h.few2⟩
theorem XZ.find{I:List zQ}{C:List (Bs × Nat)}(h:XZ w b o I C)(nm:Bs):Calls Tryz.prog 86 #[.pointer (some ⟨b,o,none⟩),.string ⟨nm.toArray⟩] w fun e w'=>e=.returned (.int .i64 (zH (I.map zQ.name) nm))/\Below w.heap.size w w':=by
 obtain⟨ia,ic,h1,h2⟩:=h.inp;exact Ya w b o ia ic I nm h1 h2 h.few1
theorem XZ.findC{I:List zQ}{C:List (Bs × Nat)}(h:XZ w b o I C)(nm:Bs):Calls Tryz.prog 137 #[.pointer (some ⟨b,o,none⟩),.string ⟨nm.toArray⟩] w fun e w'=>e=.returned (.int .i64 (zH (C.map Prod.fst) nm))/\Below w.heap.size w w':=by
 obtain⟨ca,cc,h1,h2⟩:=h.con;exact Co w b o ca cc C nm h1 h2 h.few2
def zC3(y:qY):Array Value := #[.int .i64 y.kind,.int .i64 y.left,.int .i64 y.right,.int .i64 y.place,.bool y.two,.int .i64 y.other,.int .i64 y.num,.bool y.less,.bool y.equal,.bool y.more]
def zJO(y:qY):Obj:=.cells (zC3 y) 263 (0,0)
def nsO(x:zT):Obj:=.cells #[.int .i64 x.kind,.int .i64 x.left,.int .i64 x.right,.string ⟨x.name.toArray⟩,.string ⟨x.mark.toArray⟩,.string ⟨x.other.toArray⟩,.int .i64 x.num] 238 (0,0)
theorem B6(y:qY):(Tryz.prog.info? 263).map (·.size)=some (zC3 y).size:=by show _=some 10;kernel_rfl
structure CA(w W:World)(x:zT)(y:qY):Prop where
 src:W.heap[w.heap.size]? = some (nsO x)
 res:W.heap[w.heap.size+1]? = some (zJO oO)
 mad:W.heap[w.heap.size+1+1]? = some (zJO y)
 bel:Below w.heap.size w W
theorem CA.below{W':World}{x:zT}(h:CA w W x y)(hb:Below W.heap.size W W'):CA w W' x y :=
 ⟨by rw[hb.block _ (zJ h.src)];exact h.src,by rw[hb.block _ (zJ h.res)];exact h.res,by rw[hb.block _ (zJ h.mad)];exact h.mad,h.bel.trans (hb.mono h.bel.size)⟩
theorem CA.set{x:zT}{y':qY}(h:CA w W x y){j:Nat}(e:(zC3 y).setIfInBounds j v=zC3 y'):CA w (W.setCell ⟨w.heap.size+1+1,j,none⟩ v) x y' :=
 ⟨by rw[lk _ _ _ _ (show w.heap.size≠w.heap.size+1+1 by omega)];exact h.src,by rw[lk _ _ _ _ (show w.heap.size+1≠w.heap.size+1+1 by omega)];exact h.res,by have h1:=h.mad;unfold zJO at h1 ⊢;rw[tr W _ j _ _ _ h1,<-e],h.bel.setCell (p:=⟨w.heap.size+1+1,j,none⟩) (show w.heap.size<=w.heap.size+1+1 by omega) _⟩
theorem CA.cells{x:zT}(h:CA w W x y):(W.cell? ⟨w.heap.size,0,none⟩=some (.int .i64 x.kind)/\W.cell? ⟨w.heap.size,3,none⟩=some (.string ⟨x.name.toArray⟩)/\W.cell? ⟨w.heap.size,4,none⟩=some (.string ⟨x.mark.toArray⟩)/\W.cell? ⟨w.heap.size,5,none⟩=some (.string ⟨x.other.toArray⟩)) /\
 (W.cell? ⟨w.heap.size+1+1,3,none⟩=some (.int .i64 y.place)/\W.cell? ⟨w.heap.size+1+1,4,none⟩=some (.bool y.two)/\W.cell? ⟨w.heap.size+1+1,5,none⟩=some (.int .i64 y.other)/\W.cell? ⟨w.heap.size+1+1,7,none⟩=some (.bool y.less)/\W.cell? ⟨w.heap.size+1+1,8,none⟩=some (.bool y.equal)/\W.cell? ⟨w.heap.size+1+1,9,none⟩=some (.bool y.more)) /\
 (W.frozen? ⟨w.heap.size+1+1,3,none⟩=false/\W.frozen? ⟨w.heap.size+1+1,4,none⟩=false/\W.frozen? ⟨w.heap.size+1+1,5,none⟩=false/\W.frozen? ⟨w.heap.size+1+1,7,none⟩=false/\W.frozen? ⟨w.heap.size+1+1,8,none⟩=false/\W.frozen? ⟨w.heap.size+1+1,9,none⟩=false):=by
 have h1:=h.src;unfold nsO at h1;have h2:=h.mad;unfold zJO zC3 at h2;have hf:∀j,W.frozen? ⟨w.heap.size+1+1,j,none⟩=false:=fun j=>by simp[World.frozen?,h2]
 exact⟨⟨(zB h1 0).trans rfl,(zB h1 3).trans rfl,(zB h1 4).trans rfl,(zB h1 5).trans rfl⟩,⟨(zB h2 3).trans rfl,(zB h2 4).trans rfl,(zB h2 5).trans rfl,(zB h2 7).trans rfl,(zB h2 8).trans rfl,(zB h2 9).trans rfl⟩,hf 3,hf 4,hf 5,hf 7,hf 8,hf 9⟩
theorem BF(w:World)(b o:Nat)(I:List zQ)(C:List (Bs × Nat))(h:XZ w b o I C)(x:zT) :
 Calls Tryz.prog 139 #[.pointer (some ⟨b,o,none⟩),kO x] w fun e w'=>e=.returned (nD (pY (I.map zQ.name) (C.map Prod.fst) x))/\Below w.heap.size w w':=by
 have HF:=zA (fun w' (hb:Below w.heap.size w w') nm=>(h.below hb).find nm);have HC:=zA (fun w' (hb:Below w.heap.size w w') nm=>(h.below hb).findC nm);have HPl:Hid (U5 (I.map zQ.name) (C.map Prod.fst) x=if x.kind=5 then zH (C.map Prod.fst) x.name else if x.kind=6\/x.kind=7 then zH (I.map zQ.name) x.name else 0):=rfl;have HOt:Hid (zGD (I.map zQ.name) x=if x.other=[] then 0 else zH (I.map zQ.name) x.other):=rfl;have HA:Hid (pY (I.map zQ.name) (C.map Prod.fst) x=⟨x.kind,x.left,x.right,U5 (I.map zQ.name) (C.map Prod.fst) x,decide (x.other≠[]),zGD (I.map zQ.name) x,x.num,Ds x.mark,JI x.mark,Dr x.mark⟩):=rfl;have HLs:Hid (∀m,Ds m=decide (m=[60]\/m=[60,61]\/m=[33,61])):=fun _=>rfl;have HEq:Hid (∀m,JI m=decide (m=[60,61]\/m=[61]\/m=[62,61])):=fun _=>rfl;have HMo:Hid (∀m,Dr m=decide (m=[62]\/m=[62,61]\/m=[33,61])):=fun _=>rfl;generalize pY (I.map zQ.name) (C.map Prod.fst) x=ans at *;generalize U5 (I.map zQ.name) (C.map Prod.fst) x=pl at *;generalize zGD (I.map zQ.name) x=oth at *;clear h;obtain⟨kd,lf,rg,nm,mk,ot,nu⟩:=x;simp only at HA HPl HOt
 replace HLs:=zA (HLs.out mk)
 replace HEq:=zA (HEq.out mk)
 replace HMo:=zA (HMo.out mk)
 generalize Ds mk=ls at *;generalize JI mk=eq at *;generalize Dr mk=mo at *;have HF1:=zA (fun w' hb=>HF.out w' hb nm);have HF2:=zA (fun w' hb=>HF.out w' hb ot);have HC1:=zA (fun w' hb=>HC.out w' hb nm);clear HF HC;generalize zH (I.map zQ.name) nm=f1 at *;generalize zH (I.map zQ.name) ot=f3 at *;generalize zH (C.map Prod.fst) nm=f2 at *;simp only[kO];have HS0:Hid (CA w (((w.alloc (nsO ⟨kd,lf,rg,nm,mk,ot,nu⟩)).alloc (zJO oO)).alloc (zJO ⟨kd,lf,rg,0,false,0,nu,false,false,false⟩)) ⟨kd,lf,rg,nm,mk,ot,nu⟩ ⟨kd,lf,rg,0,false,0,nu,false,false,false⟩):=⟨zS (zS (zG _ _)),zS (yS _ _ _ (by simp)),yS _ _ _ (by simp),((gb (j1 _) _).alloc (by simp) _).alloc (by simp;omega) _⟩
 go_enter Tryz.func139,Tryz.ntmps139
 go_upto_block 0 with fail
 go_cut [5] from 6 to 62 (fun v5 wx=>v5=.pointer (some ⟨w.heap.size+1+1,0,none⟩)/\Hid (CA w wx ⟨kd,lf,rg,nm,mk,ot,nu⟩ ⟨kd,lf,rg,pl,false,0,nu,false,false,false⟩))
 case first =>
  by_cases k5:kd=5
  ·subst k5
   have HP2:Hid (pl=f2):=HPl.out.trans (tl rfl);go_wp2_with fail
   refine(HC1.out _ HS0.out.bel).mono ?_;rintro e w4 ⟨rfl,hb4⟩;have HS4:=zA (HS0.out.below hb4);obtain⟨⟨s0,s3,s4,s5⟩,⟨m3,m4,m5,m7,m8,m9⟩,z3,z4,z5,z7,z8,z9⟩:=HS4.out.cells;simp only at s0 s3 s4 s5 m3 m4 m5 m7 m8 m9;clear hb4;go_wp2_with fail
   go_meet
   exact⟨rfl,zA (HS4.out.set (by rw[HP2.out];rfl))⟩
  ·by_cases k67:kd=6\/kd=7
   ·have HP2:Hid (pl=f1):=HPl.out.trans ((tb k5).trans (tl k67))
    have b5:(kd==5)=false:=by simpa using k5
    rcases k67 with rfl|rfl
    ·go_wp2_with fail
     refine(HF1.out _ HS0.out.bel).mono ?_;rintro e w4 ⟨rfl,hb4⟩;have HS4:=zA (HS0.out.below hb4);obtain⟨⟨s0,s3,s4,s5⟩,⟨m3,m4,m5,m7,m8,m9⟩,z3,z4,z5,z7,z8,z9⟩:=HS4.out.cells;simp only at s0 s3 s4 s5 m3 m4 m5 m7 m8 m9;clear hb4;go_wp2_with fail
     go_meet
     exact⟨rfl,zA (HS4.out.set (by rw[HP2.out];rfl))⟩
    ·go_wp2_with fail
     refine(HF1.out _ HS0.out.bel).mono ?_;rintro e w4 ⟨rfl,hb4⟩;have HS4:=zA (HS0.out.below hb4);obtain⟨⟨s0,s3,s4,s5⟩,⟨m3,m4,m5,m7,m8,m9⟩,z3,z4,z5,z7,z8,z9⟩:=HS4.out.cells;simp only at s0 s3 s4 s5 m3 m4 m5 m7 m8 m9;clear hb4;go_wp2_with fail
     go_meet
     exact⟨rfl,zA (HS4.out.set (by rw[HP2.out];rfl))⟩
   ·have HP2:Hid (pl=0):=HPl.out.trans ((tb k5).trans (tb k67))
    have b5:(kd==5)=false:=by simpa using k5
    have b6:(kd==6)=false:=by simpa using fun e=>k67 (.inl e)
    have b7:(kd==7)=false:=by simpa using fun e=>k67 (.inr e)
    clear k5 k67;go_wp2_with fail
    go_meet
    exact⟨rfl,by rw[HP2.out];exact HS0⟩
 case rest =>
  obtain⟨rfl,HS1⟩:=hcut;clear HS0 HPl HC1 HF1;obtain⟨⟨s0,s3,s4,s5⟩,⟨m3,m4,m5,m7,m8,m9⟩,z3,z4,z5,z7,z8,z9⟩:=HS1.out.cells;simp only at s0 s3 s4 s5 m3 m4 m5 m7 m8 m9
  go_upto_if 34 with fail
  go_cut [5] from 6 to 62 (fun v5 wx=>v5=.pointer (some ⟨w.heap.size+1+1,0,none⟩)/\Hid (CA w wx ⟨kd,lf,rg,nm,mk,ot,nu⟩ ⟨kd,lf,rg,pl,decide (ot≠[]),oth,nu,false,false,false⟩))
  case first =>
   by_cases ko:ot=[]
   ·subst ko
    have HO2:Hid (oth=0):=HOt.out.trans (tl rfl);go_wp2_with fail
    go_meet
    exact⟨rfl,by rw[HO2.out];exact HS1⟩
   ·have HO2:Hid (oth=f3):=HOt.out.trans (tb ko)
    have HDe:Hid (decide (ot≠[])=true):=tu ko;have b0:List.isEmpty ot=false:=by cases ot with|nil=>exact absurd rfl ko|cons _ _=>rfl
    clear ko;have b1:(!List.isEmpty ot)=true:=by rw[b0];rfl
    rw[b1];have HS2:Hid (CA w (wc.setCell ⟨w.heap.size+1+1,4,none⟩ (.bool true)) ⟨kd,lf,rg,nm,mk,ot,nu⟩ ⟨kd,lf,rg,pl,true,0,nu,false,false,false⟩):=HS1.out.set rfl;go_wp2_with fail
    refine(HF2.out _ HS2.out.bel).mono ?_;rintro e w4 ⟨rfl,hb4⟩;have HS4:=zA (HS2.out.below hb4);obtain⟨⟨t0,t3,t4,t5⟩,⟨n3,n4,n5,n7,n8,n9⟩,y3,y4,y5,y7,y8,y9⟩:=HS4.out.cells;simp only at t0 t3 t4 t5 n3 n4 n5 n7 n8 n9;clear hb4;go_wp2_with fail
    go_meet
    exact⟨rfl,zA (HS4.out.set (by rw[HO2.out,HDe.out];rfl))⟩
  case rest =>
   obtain⟨rfl,HS2⟩:=hcut;clear HS1 s0 s3 s4 s5 m3 m4 m5 m7 m8 m9 z3 z4 z5 z7 z8 z9 HF2 HOt;generalize decide (ot≠[])=tw at *
   rename_i wd
   obtain⟨⟨s0,s3,s4,s5⟩,⟨m3,m4,m5,m7,m8,m9⟩,z3,z4,z5,z7,z8,z9⟩:=HS2.out.cells;simp only at s0 s3 s4 s5 m3 m4 m5 m7 m8 m9
   go_upto_block 1 with fail
   go_cut [5] from 6 to 62 (fun v5 wx=>v5=.pointer (some ⟨w.heap.size+1+1,0,none⟩)/\Hid (CA w wx ⟨kd,lf,rg,nm,mk,ot,nu⟩ ⟨kd,lf,rg,pl,tw,oth,nu,ls,false,false⟩))
   case first =>
    by_cases e0:mk=[60]
    ·subst e0
     have HV:Hid (ls=true):=HLs.out.trans (by decide);go_wp2_with fail
     go_meet
     exact⟨rfl,zA (HS2.out.set (by rw[HV.out];rfl))⟩
    by_cases e1:mk=[60,61]
    ·subst e1
     have HV:Hid (ls=true):=HLs.out.trans (by decide);go_wp2_with fail
     go_meet
     exact⟨rfl,zA (HS2.out.set (by rw[HV.out];rfl))⟩
    by_cases e2:mk=[33,61]
    ·subst e2
     have HV:Hid (ls=true):=HLs.out.trans (by decide);go_wp2_with fail
     go_meet
     exact⟨rfl,zA (HS2.out.set (by rw[HV.out];rfl))⟩
    have HV:Hid (ls=false):=HLs.out.trans (ty (by rintro(h|h|h);exact e0 h;exact e1 h;exact e2 h));have b0:(mk==[60])=false:=by simpa using e0
    have b1:(mk==[60,61])=false:=by simpa using e1
    have b2:(mk==[33,61])=false:=by simpa using e2
    clear e0 e1 e2;go_wp2_with fail
    go_meet
    exact⟨rfl,by rw[HV.out];exact HS2⟩
   case rest =>
    obtain⟨rfl,HS3⟩:=hcut;clear HS2 s0 s3 s4 s5 m3 m4 m5 m7 m8 m9 z3 z4 z5 z7 z8 z9;obtain⟨⟨s0,s3,s4,s5⟩,⟨m3,m4,m5,m7,m8,m9⟩,z3,z4,z5,z7,z8,z9⟩:=HS3.out.cells;simp only at s0 s3 s4 s5 m3 m4 m5 m7 m8 m9
    go_upto_block 2 with fail
    go_cut [5] from 6 to 62 (fun v5 wx=>v5=.pointer (some ⟨w.heap.size+1+1,0,none⟩)/\Hid (CA w wx ⟨kd,lf,rg,nm,mk,ot,nu⟩ ⟨kd,lf,rg,pl,tw,oth,nu,ls,eq,false⟩))
    case first =>
     by_cases e0:mk=[60,61]
     ·subst e0
      have HV:Hid (eq=true):=HEq.out.trans (by decide);go_wp2_with fail
      go_meet
      exact⟨rfl,zA (HS3.out.set (by rw[HV.out];rfl))⟩
     by_cases e1:mk=[61]
     ·subst e1
      have HV:Hid (eq=true):=HEq.out.trans (by decide);go_wp2_with fail
      go_meet
      exact⟨rfl,zA (HS3.out.set (by rw[HV.out];rfl))⟩
     by_cases e2:mk=[62,61]
     ·subst e2
      have HV:Hid (eq=true):=HEq.out.trans (by decide);go_wp2_with fail
      go_meet
      exact⟨rfl,zA (HS3.out.set (by rw[HV.out];rfl))⟩
     have HV:Hid (eq=false):=HEq.out.trans (ty (by rintro(h|h|h);exact e0 h;exact e1 h;exact e2 h));have b0:(mk==[60,61])=false:=by simpa using e0
     have b1:(mk==[61])=false:=by simpa using e1
     have b2:(mk==[62,61])=false:=by simpa using e2
     clear e0 e1 e2;go_wp2_with fail
     go_meet
     exact⟨rfl,by rw[HV.out];exact HS3⟩
    case rest =>
     obtain⟨rfl,HS4⟩:=hcut;clear HS3 s0 s3 s4 s5 m3 m4 m5 m7 m8 m9 z3 z4 z5 z7 z8 z9;obtain⟨⟨s0,s3,s4,s5⟩,⟨m3,m4,m5,m7,m8,m9⟩,z3,z4,z5,z7,z8,z9⟩:=HS4.out.cells;simp only at s0 s3 s4 s5 m3 m4 m5 m7 m8 m9
     go_upto_block 3 with fail
     go_cut [5] from 6 to 62 (fun v5 wx=>v5=.pointer (some ⟨w.heap.size+1+1,0,none⟩)/\Hid (CA w wx ⟨kd,lf,rg,nm,mk,ot,nu⟩ ⟨kd,lf,rg,pl,tw,oth,nu,ls,eq,mo⟩))
     case first =>
      by_cases e0:mk=[62]
      ·subst e0
       have HV:Hid (mo=true):=HMo.out.trans (by decide);go_wp2_with fail
       go_meet
       exact⟨rfl,zA (HS4.out.set (by rw[HV.out];rfl))⟩
      by_cases e1:mk=[62,61]
      ·subst e1
       have HV:Hid (mo=true):=HMo.out.trans (by decide);go_wp2_with fail
       go_meet
       exact⟨rfl,zA (HS4.out.set (by rw[HV.out];rfl))⟩
      by_cases e2:mk=[33,61]
      ·subst e2
       have HV:Hid (mo=true):=HMo.out.trans (by decide);go_wp2_with fail
       go_meet
       exact⟨rfl,zA (HS4.out.set (by rw[HV.out];rfl))⟩
      have HV:Hid (mo=false):=HMo.out.trans (ty (by rintro(h|h|h);exact e0 h;exact e1 h;exact e2 h));have b0:(mk==[62])=false:=by simpa using e0
      have b1:(mk==[62,61])=false:=by simpa using e1
      have b2:(mk==[33,61])=false:=by simpa using e2
      clear e0 e1 e2;go_wp2_with fail
      go_meet
      exact⟨rfl,by rw[HV.out];exact HS4⟩
     case rest =>
      obtain⟨rfl,HS5⟩:=hcut;clear HS4 s0 s3 s4 s5 m3 m4 m5 m7 m8 m9 z3 z4 z5 z7 z8 z9;obtain⟨⟨s0,s3,s4,s5⟩,⟨m3,m4,m5,m7,m8,m9⟩,z3,z4,z5,z7,z8,z9⟩:=HS5.out.cells;simp only at s0 s3 s4 s5 m3 m4 m5 m7 m8 m9
      go_wp2_with (first
       | (refine wpList_load_row ?zLA 263 (.tmp 5) ?ho (w.heap.size+1+1) ?hx 263 (zC3 ⟨kd,lf,rg,pl,tw,oth,nu,ls,eq,mo⟩) (0,0) _ HS5.out.mad Tryz.underlying263 rfl (B6 _) ?_
          case ho=>rfl
          case zLA=>rfl
          case hx=>rfl)
       | (refine wpList_store_row ?zLA 263 (.tmp 4) (.tmp 62) ?ho (w.heap.size+1) (zC3 ⟨kd,lf,rg,pl,tw,oth,nu,ls,eq,mo⟩) ?hx ?hy 263 (zC3 oO) HS5.out.res (B6 _) rfl (by simp[zC3,Value.oneCell']) ?_
          case ho=>rfl
          case zLA=>rfl
          case hx=>rfl
          case hy=>rfl))
      refine pe (v:=nD ⟨kd,lf,rg,pl,tw,oth,nu,ls,eq,mo⟩) (results_cell_row Tryz.results139 _ _ (w.heap.size+1) 263 (zC3 ⟨kd,lf,rg,pl,tw,oth,nu,ls,eq,mo⟩) (0,0) _ rfl (cg _ _ _ _ _ _ HS5.out.res) Tryz.underlying263 rfl (B6 _)) rfl ⟨by rw[HA.out],xI HS5.out.bel (by omega) _⟩
def B7(x:lX):Value:=.agg #[.int .i64 x.kind,.int .i64 x.num,.int .i64 x.place]
def Vo(k n p:Int):Obj:=.cells #[.int .i64 k,.int .i64 n,.int .i64 p] 260 (0,0)
theorem B8:(Tryz.prog.info? 260).map (·.size)=some 3:=by kernel_rfl
theorem zE3(h:w.heap[b]? = some (Vo k n p)):w.cell? ⟨b,0,none⟩=some (.int .i64 k)/\w.cell? ⟨b,1,none⟩=some (.int .i64 n)/\w.cell? ⟨b,2,none⟩=some (.int .i64 p)/\∀j,w.frozen? ⟨b,j,none⟩=false:=by
 unfold Vo at h;exact⟨(zB h 0).trans rfl,(zB h 1).trans rfl,(zB h 2).trans rfl,fun j=>by simp[World.frozen?,h]⟩
theorem zE2{x:Int}(h:w.heap[b]? = some (Vo k n p)):(w.setCell ⟨b,0,none⟩ (.int .i64 x)).heap[b]? = some (Vo x n p):=by
 unfold Vo at h ⊢;rw[tr w b 0 _ _ _ h];simp
theorem zE1{x:Int}(h:w.heap[b]? = some (Vo k n p)):(w.setCell ⟨b,1,none⟩ (.int .i64 x)).heap[b]? = some (Vo k x p):=by
 unfold Vo at h ⊢;rw[tr w b 1 _ _ _ h];simp
theorem zE0{x:Int}(h:w.heap[b]? = some (Vo k n p)):(w.setCell ⟨b,2,none⟩ (.int .i64 x)).heap[b]? = some (Vo k n x):=by
 unfold Vo at h ⊢;rw[tr w b 2 _ _ _ h];simp
def ptO(x:xE):Obj:=.cells #[.bool x.minus,.bool x.starred,.int .i64 x.num,.string ⟨x.name.toArray⟩] 235 (0,0)
structure Kn(w W:World)(x:xE)(k n p:Int):Prop where
 src:W.heap[w.heap.size]? = some (ptO x)
 res:W.heap[w.heap.size+1]? = some (Vo 0 0 0)
 mad:W.heap[w.heap.size+1+1]? = some (Vo k n p)
 bel:Below w.heap.size w W
theorem Kn.below{W':World}(h:Kn w W x k n p)(hb:Below W.heap.size W W'):Kn w W' x k n p :=
 ⟨by rw[hb.block _ (zJ h.src)];exact h.src,by rw[hb.block _ (zJ h.res)];exact h.res,by rw[hb.block _ (zJ h.mad)];exact h.mad,h.bel.trans (hb.mono h.bel.size)⟩
theorem Kn.set0(h:Kn w W x k n p)(y:Int):Kn w (W.setCell ⟨w.heap.size+1+1,0,none⟩ (.int .i64 y)) x y n p :=
 ⟨by rw[lk _ _ _ _ (show w.heap.size≠w.heap.size+1+1 by omega)];exact h.src,by rw[lk _ _ _ _ (show w.heap.size+1≠w.heap.size+1+1 by omega)];exact h.res,zE2 h.mad,h.bel.setCell (p:=⟨w.heap.size+1+1,0,none⟩) (show w.heap.size<=w.heap.size+1+1 by omega) _⟩
theorem Kn.set1(h:Kn w W x k n p)(y:Int):Kn w (W.setCell ⟨w.heap.size+1+1,1,none⟩ (.int .i64 y)) x k y p :=
 ⟨by rw[lk _ _ _ _ (show w.heap.size≠w.heap.size+1+1 by omega)];exact h.src,by rw[lk _ _ _ _ (show w.heap.size+1≠w.heap.size+1+1 by omega)];exact h.res,zE1 h.mad,h.bel.setCell (p:=⟨w.heap.size+1+1,1,none⟩) (show w.heap.size<=w.heap.size+1+1 by omega) _⟩
theorem Kn.set2(h:Kn w W x k n p)(y:Int):Kn w (W.setCell ⟨w.heap.size+1+1,2,none⟩ (.int .i64 y)) x k n y :=
 ⟨by rw[lk _ _ _ _ (show w.heap.size≠w.heap.size+1+1 by omega)];exact h.src,by rw[lk _ _ _ _ (show w.heap.size+1≠w.heap.size+1+1 by omega)];exact h.res,zE0 h.mad,h.bel.setCell (p:=⟨w.heap.size+1+1,2,none⟩) (show w.heap.size<=w.heap.size+1+1 by omega) _⟩
theorem Kn.cells(h:Kn w W x k n p):(W.cell? ⟨w.heap.size,0,none⟩=some (.bool x.minus)/\W.cell? ⟨w.heap.size,1,none⟩=some (.bool x.starred)/\W.cell? ⟨w.heap.size,2,none⟩=some (.int .i64 x.num)/\W.cell? ⟨w.heap.size,3,none⟩=some (.string ⟨x.name.toArray⟩))/\(W.cell? ⟨w.heap.size+1+1,0,none⟩=some (.int .i64 k)/\W.cell? ⟨w.heap.size+1+1,1,none⟩=some (.int .i64 n)/\W.cell? ⟨w.heap.size+1+1,2,none⟩=some (.int .i64 p))/\(W.frozen? ⟨w.heap.size+1+1,0,none⟩=false/\W.frozen? ⟨w.heap.size+1+1,1,none⟩=false/\W.frozen? ⟨w.heap.size+1+1,2,none⟩=false):=by
 have h1:=h.src;unfold ptO at h1;obtain⟨m0,m1,m2,mf⟩:=zE3 h.mad;exact⟨⟨(zB h1 0).trans rfl,(zB h1 1).trans rfl,(zB h1 2).trans rfl,(zB h1 3).trans rfl⟩,⟨m0,m1,m2⟩,mf 0,mf 1,mf 2⟩
theorem BE(w:World)(b o:Nat)(I:List zQ)(C:List (Bs × Nat))(h:XZ w b o I C)(x:xE)(hn:0<=x.num/\x.num<=9999) :
 Calls Tryz.prog 138 #[.pointer (some ⟨b,o,none⟩),oI x] w fun e w'=>e=.returned (B7 (xT (I.map zQ.name) (C.map Prod.fst) x))/\Below w.heap.size w w':=by
 have HF:=zA (fun w' (hb:Below w.heap.size w w')=>(h.below hb).find x.name);have HC:=zA (fun w' (hb:Below w.heap.size w w')=>(h.below hb).findC x.name);have HA:Hid (xT (I.map zQ.name) (C.map Prod.fst) x=⟨JD (I.map zQ.name) x,if x.minus then -U4 x else U4 x,zr (I.map zQ.name) (C.map Prod.fst) x⟩):=rfl;unfold JD zr U4 at HA;generalize xT (I.map zQ.name) (C.map Prod.fst) x=ans at *;obtain⟨mi,st,nu,nm⟩:=x;simp only at HA HF HC hn;obtain⟨hn0,hn1⟩:=hn;clear h;generalize zH (I.map zQ.name) nm=f1 at *;generalize zH (C.map Prod.fst) nm=f2 at *;simp only[oI];have HS0:Hid (Kn w (((w.alloc (ptO ⟨mi,st,nu,nm⟩)).alloc (Vo 0 0 0)).alloc (Vo 1 nu 0)) ⟨mi,st,nu,nm⟩ 1 nu 0):=⟨zS (zS (zG _ _)),zS (yS _ _ _ (by simp)),yS _ _ _ (by simp),((gb (j1 _) _).alloc (by simp) _).alloc (by simp;omega) _⟩;obtain⟨kk,hkk⟩:∃kk,kk=if nm=[] then (1:Int) else if f1<0 then 3 else 2:=⟨_,rfl⟩;obtain⟨pp,hpp⟩:∃pp,pp=if nm=[] then (0:Int) else if f1<0 then f2 else f1:=⟨_,rfl⟩;obtain⟨nn,hnn⟩:∃nn,nn=if nm=[] then nu else if st then nu else 1:=⟨_,rfl⟩;rw[<-hkk,<-hpp,<-hnn]at HA
 have hnr:0<=nn/\nn<=9999:=by
  rw[hnn];split
  ·exact⟨hn0,hn1⟩
  ·split
   ·exact⟨hn0,hn1⟩
   ·exact⟨by decide,by decide⟩
 have HK:=zA hkk;have HP:=zA hpp;have HN:=zA hnn;clear hkk hpp hnn
 go_enter Tryz.func138,Tryz.ntmps138
 go_upto_if 11 with fail
 go_cut [5] from 6 to 37 (fun v5 wx=>v5=.pointer (some ⟨w.heap.size+1+1,0,none⟩)/\Hid (Kn w wx ⟨mi,st,nu,nm⟩ kk nn pp))
 case first =>
  by_cases k0:nm=[]
  ·subst k0
   have HK2:Hid (kk=1):=HK.out.trans (tl rfl);have HP2:Hid (pp=0):=HP.out.trans (tl rfl);have HN2:Hid (nn=nu):=HN.out.trans (tl rfl);go_wp2_with fail
   go_meet
   exact⟨rfl,by rw[HK2.out,HP2.out,HN2.out];exact HS0⟩
  ·have HK2:Hid (kk=if f1<0 then 3 else 2):=HK.out.trans (tb k0)
   have HP2:Hid (pp=if f1<0 then f2 else f1):=HP.out.trans (tb k0);have HN2:Hid (nn=if st then nu else 1):=HN.out.trans (tb k0);have b0:List.isEmpty nm=false:=by cases nm with|nil=>exact absurd rfl k0|cons _ _=>rfl
   have b1:(!List.isEmpty nm)=true:=by rw[b0];rfl
   clear k0 HK HP HN
   try rw[b1]
   have HS1:Hid (Kn w (((w.alloc (ptO ⟨mi,st,nu,nm⟩)).alloc (Vo 0 0 0)).alloc (Vo 2 nu 0)) ⟨mi,st,nu,nm⟩ 2 nu 0):=⟨zS (zS (zG _ _)),zS (yS _ _ _ (by simp)),yS _ _ _ (by simp),((gb (j1 _) _).alloc (by simp) _).alloc (by simp;omega) _⟩;go_wp2_with fail
   refine(HF.out _ HS1.out.bel).mono ?_;rintro e w4 ⟨rfl,hb4⟩;have HS4:=zA (HS1.out.below hb4);obtain⟨⟨s40,s41,s42,s43⟩,⟨m40,m41,m42⟩,f40,f41,f42⟩:=HS4.out.cells;simp only at s40 s41 s42 s43;have HS5:=zA (HS4.out.set2 f1);clear hb4 HS1 HS0
   go_upto_if 20 with fail
   go_cut [5] from 6 to 37 (fun v5 wx=>v5=.pointer (some ⟨w.heap.size+1+1,0,none⟩)/\Hid (Kn w wx ⟨mi,st,nu,nm⟩ kk nu pp))
   case first =>
    by_cases k1:f1<0
    ·have HK3:Hid (kk=3):=HK2.out.trans (tl k1)
     have HP3:Hid (pp=f2):=HP2.out.trans (tl k1);have HS6:=zA (HS5.out.set0 3)
     try rw[tu k1]
     go_wp2_with fail
     refine(HC.out _ HS6.out.bel).mono ?_;rintro e w6 ⟨rfl,hb6⟩;have HS7:=zA (HS6.out.below hb6);obtain⟨⟨s60,s61,s62,s63⟩,⟨m60,m61,m62⟩,f60,f61,f62⟩:=HS7.out.cells;simp only at s60 s61 s62 s63;clear hb6;go_wp2_with fail
     go_meet
     exact⟨rfl,by rw[HK3.out,HP3.out];exact zA (HS7.out.set2 f2)⟩
    ·have HK3:Hid (kk=2):=HK2.out.trans (tb k1)
     have HP3:Hid (pp=f1):=HP2.out.trans (tb k1)
     try rw[ty k1]
     go_wp2_with fail
     go_meet
     exact⟨rfl,by rw[HK3.out,HP3.out];exact HS5⟩
   case rest =>
    obtain⟨rfl,HS6⟩:=hcut;clear HS5 HS4 s40 s41 s42 s43 m40 m41 m42 f40 f41 f42;obtain⟨⟨s40,s41,s42,s43⟩,⟨m40,m41,m42⟩,f40,f41,f42⟩:=HS6.out.cells;simp only at s40 s41 s42 s43;cases st
    ·have HN3:Hid (nn=1):=HN2
     go_wp2_with fail
     go_meet
     exact⟨rfl,by rw[HN3.out];exact zA (HS6.out.set1 1)⟩
    ·have HN3:Hid (nn=nu):=HN2
     go_wp2_with fail
     go_meet
     exact⟨rfl,by rw[HN3.out];exact HS6⟩
 case rest =>
  obtain⟨rfl,HS1⟩:=hcut;clear HS0 HK HP HN HF HC;obtain⟨⟨s40,s41,s42,s43⟩,⟨m40,m41,m42⟩,f40,f41,f42⟩:=HS1.out.cells;simp only at s40 s41 s42 s43;obtain⟨n2,hn2⟩:∃n2,n2=if mi then -nn else nn:=⟨_,rfl⟩;rw[<-hn2]at HA;have HN2:=zA hn2;clear hn2
  go_upto_if 32 with fail
  go_cut [5] from 6 to 37 (fun v5 wx=>v5=.pointer (some ⟨w.heap.size+1+1,0,none⟩)/\Hid (Kn w wx ⟨mi,st,nu,nm⟩ kk n2 pp))
  case first =>
   cases mi
   ·have HN3:Hid (n2=nn):=HN2
    go_wp2_with fail
    go_meet
    exact⟨rfl,by rw[HN3.out];exact HS1⟩
   ·have HN3:Hid (n2 = -nn):=HN2
    obtain⟨hr0,hr1⟩:=hnr;go_wp2_with fail
    go_meet
    exact⟨rfl,by rw[HN3.out];exact zA (HS1.out.set1 (-nn))⟩
  case rest =>
   obtain⟨rfl,HS7⟩:=hcut;clear HS1 s40 s41 s42 s43 m40 m41 m42 f40 f41 f42
   go_wp2_with (first
    | (refine wpList_load_row ?zLA 260 (.tmp 5) ?ho (w.heap.size+1+1) ?hx 260 #[.int .i64 kk,.int .i64 n2,.int .i64 pp] (0,0) _ HS7.out.mad Tryz.underlying260 rfl B8 ?_
       case ho=>rfl
       case zLA=>rfl
       case hx=>rfl)
    | (refine wpList_store_row ?zLA 260 (.tmp 4) (.tmp 37) ?ho (w.heap.size+1) #[.int .i64 kk,.int .i64 n2,.int .i64 pp] ?hx ?hy 260 #[.int .i64 0,.int .i64 0,.int .i64 0] HS7.out.res B8 rfl (by simp[Value.oneCell']) ?_
       case ho=>rfl
       case zLA=>rfl
       case hx=>rfl
       case hy=>rfl))
   refine pe (v:=B7 ⟨kk,n2,pp⟩) (results_cell_row Tryz.results138 _ _ (w.heap.size+1) 260 #[.int .i64 kk,.int .i64 n2,.int .i64 pp] (0,0) _ rfl (cg _ _ _ _ _ _ HS7.out.res) Tryz.underlying260 rfl B8) rfl ⟨by rw[HA.out],xI HS7.out.bel (by omega) _⟩
def F5(lab:Bs)(cc:Int)(sv gv:Value)(ro:Int):Array Value := #[.string ⟨lab.toArray⟩,.int .i64 cc,sv,gv,.int .i64 ro]
def oA(lab:Bs)(cc:Int)(sv gv:Value)(ro:Int):Obj:=.cells (F5 lab cc sv gv ro) 162 (0,0)
theorem rY(h:w.heap[b]? = some (oA lab cc sv gv ro)):w.cell? ⟨b,2,none⟩=some sv/\w.cell? ⟨b,3,none⟩=some gv/\∀j,w.frozen? ⟨b,j,none⟩=false:=by
 unfold oA F5 at h;exact⟨(zB h 2).trans rfl,(zB h 3).trans rfl,fun j=>by simp[World.frozen?,h]⟩
theorem zDC(h:w.heap[b]? = some (oA lab cc sv gv ro)):(w.setCell ⟨b,2,none⟩ v).heap[b]? = some (oA lab cc v gv ro):=by
 unfold oA F5 at h ⊢;rw[tr w b 2 _ _ _ h];simp
theorem zDB(h:w.heap[b]? = some (oA lab cc sv gv ro)):(w.setCell ⟨b,3,none⟩ v).heap[b]? = some (oA lab cc sv v ro):=by
 unfold oA F5 at h ⊢;rw[tr w b 3 _ _ _ h];simp
def zAE(w:World)(b:Nat)(v0 v1 v2 v3 v4:Value):World:=((((w.setCell ⟨b,0,none⟩ v0).setCell ⟨b,1,none⟩ v1).setCell ⟨b,2,none⟩ v2).setCell ⟨b,3,none⟩ v3).setCell ⟨b,4,none⟩ v4
theorem De(h:w.heap[b]? = some (oA lab cc sv gv ro))(lab':Bs)(cc' ro':Int)(sv' gv':Value):(zAE w b (.string ⟨lab'.toArray⟩) (.int .i64 cc') sv' gv' (.int .i64 ro')).heap[b]? = some (oA lab' cc' sv' gv' ro'):=by
 unfold zAE oA F5 at *;have h1:(w.setCell ⟨b,0,none⟩ (.string ⟨lab'.toArray⟩)).heap[b]? = some (.cells #[.string ⟨lab'.toArray⟩,.int .i64 cc,sv,gv,.int .i64 ro] 162 (0,0)):=by rw[tr w b 0 _ _ _ h];simp
 have h2:((w.setCell ⟨b,0,none⟩ (.string ⟨lab'.toArray⟩)).setCell ⟨b,1,none⟩ (.int .i64 cc')).heap[b]? = some (.cells #[.string ⟨lab'.toArray⟩,.int .i64 cc',sv,gv,.int .i64 ro] 162 (0,0)):=by rw[tr _ b 1 _ _ _ h1];simp
 have h3:(((w.setCell ⟨b,0,none⟩ (.string ⟨lab'.toArray⟩)).setCell ⟨b,1,none⟩ (.int .i64 cc')).setCell ⟨b,2,none⟩ sv').heap[b]? = some (.cells #[.string ⟨lab'.toArray⟩,.int .i64 cc',sv',gv,.int .i64 ro] 162 (0,0)):=by rw[tr _ b 2 _ _ _ h2];simp
 have h4:((((w.setCell ⟨b,0,none⟩ (.string ⟨lab'.toArray⟩)).setCell ⟨b,1,none⟩ (.int .i64 cc')).setCell ⟨b,2,none⟩ sv').setCell ⟨b,3,none⟩ gv').heap[b]? = some (.cells #[.string ⟨lab'.toArray⟩,.int .i64 cc',sv',gv',.int .i64 ro] 162 (0,0)):=by rw[tr _ b 3 _ _ _ h3];simp
 rw[tr _ b 4 _ _ _ h4];simp
theorem XA{a:World}(h:Below B a w)(hb:B<=b)(v0 v1 v2 v3 v4:Value):Below B a (zAE w b v0 v1 v2 v3 v4) :=
 ((((h.setCell (p:=⟨b,0,none⟩) hb _).setCell (p:=⟨b,1,none⟩) hb _).setCell (p:=⟨b,2,none⟩) hb _).setCell (p:=⟨b,3,none⟩) hb _).setCell (p:=⟨b,4,none⟩) hb _
theorem ug(h:w.heap[b]? = some (oA lab cc sv gv ro)):(w.cell? ⟨b,0,none⟩=some (.string ⟨lab.toArray⟩)/\w.cell? ⟨b,1,none⟩=some (.int .i64 cc)/\w.cell? ⟨b,2,none⟩=some sv/\w.cell? ⟨b,3,none⟩=some gv/\w.cell? ⟨b,4,none⟩=some (.int .i64 ro))/\(w.frozen? ⟨b,0,none⟩=false/\w.frozen? ⟨b,1,none⟩=false/\w.frozen? ⟨b,2,none⟩=false/\w.frozen? ⟨b,3,none⟩=false/\w.frozen? ⟨b,4,none⟩=false):=by
 unfold oA F5 at h;have hf:∀j,w.frozen? ⟨b,j,none⟩=false:=fun j=>by simp[World.frozen?,h]
 exact⟨⟨(zB h 0).trans rfl,(zB h 1).trans rfl,(zB h 2).trans rfl,(zB h 3).trans rfl,(zB h 4).trans rfl⟩,hf 0,hf 1,hf 2,hf 3,hf 4⟩
theorem UZ(lab:Bs)(cc:Int)(sv gv:Value)(ro:Int):(Tryz.prog.info? 162).map (·.size)=some (F5 lab cc sv gv ro).size:=by show _=some 5;kernel_rfl
theorem Gt:(Tryz.prog.info? 260).map (fun i=>(i.zero,i.size,i.bytes))=some (some (.agg #[.int .i64 0,.int .i64 0,.int .i64 0]),3,24):=by kernel_rfl
theorem Gu:(Tryz.prog.info? 263).map (fun i=>(i.zero,i.size,i.bytes))=some (some (.agg #[.int .i64 0,.int .i64 0,.int .i64 0,.int .i64 0,.bool false,.int .i64 0,.int .i64 0,.bool false,.bool false,.bool false]),10,64):=by kernel_rfl
theorem yZ.keeps{w':World}{a:Option Addr}{R:Nat}{cs:Array Value}{t':TypeId}{fz:Nat × Nat}(h:yZ w t a xs)(hk:zC w.heap.size R w w')(hR:w.heap[R]? = some (.cells cs t' fz))(zL4:t≠t'):yZ w' t a xs :=
 h.keep fun g cs' fz' hg=>hk.block g (zJ hg) (fun e=>by
  subst e;rw[hR]at hg;simp only[ld,Obj.cells.injEq]at hg;exact zL4 hg.2.1.symm)
theorem X3{w2:World}(hg:w.grownBy w2 v.ownBlock){x:Obj}(h:w.heap[b]? = some x)(hr:∀k,v.ownBlock=some k->B<=k)(hB:b<B):w2.heap[b]? = some x:=by
 rw[hg.block b (zJ h) (fun e=>by have:=hr b e.symm;omega)];exact h
theorem cB{j k n:Nat}{u:Value}(h:w.ownsRow B t k v n xs)(hb:b<B):(w.setCell ⟨b,j,none⟩ u).ownsRow B t k v n xs :=
 uB h ((zC.refl w.heap.size b w).setCell (p:=⟨b,j,none⟩) (.inr rfl) u) hb
theorem sY{α β:Type}(f:α->List Value)(g:β->α)(L:List β)(i:Nat)(d:β)(h:i<L.length):((L.take (i+1)).map g).flatMap f=((L.take i).map g).flatMap f++f (g (L.getD i d)):=by
 have:L.take (i+1)=L.take i++[L.getD i d]:=by rw[cy];simp[List.getD,h]
 rw[this];simp
def C8(r:xJ)(w w':World)(e:Ending):Prop:=∃y:MX,y.1=r/\e=.returned (uC y)/\uL w' y/\Below w.heap.size w w'
theorem BD(w:World)(mb o:Nat)(I:List zQ)(C:List (Bs × Nat))(h:XZ w mb o I C)(x:zE)(sa na:Option Addr)(sc nc:Nat)(hS:zk w sa x.sum)(hN:zBR w na x.nd)(hg:gO x)(hnn:x.nd.length<=10000) :
 Calls Tryz.prog 93 #[.pointer (some ⟨mb,o,none⟩),uJ (.slice sa x.sum.length sc) (.slice na x.nd.length nc) x] w fun e w'=>C8 (qG (I.map zQ.name) (C.map Prod.fst) x) w w' e:=by
 obtain⟨i0,hi0,hz0,hz1,hz2⟩:=info_parts Gt;obtain⟨j0,hj0,hj1,hj2,hj3⟩:=info_parts Gu;have hs1:=hS.few;have hn1:=hN.few;have hsn:=hg.sumN;have HS:=zA hS;have HN:=zA hN;have HNm:=zA h;have HSu:=zA hg.sums;have HOw:=zA (fun w'=>Dj w' x.name);have HCo:=zA (fun w' (hb:Below w.heap.size w w')=>(h.below hb).findC x.conc);have HMp:=zA (fun w' (hb:Below w.heap.size w w') y hy=>BE w' mb o I C (h.below hb) y hy);have HMn:=zA (fun w' (hb:Below w.heap.size w w') y=>BF w' mb o I C (h.below hb) y);have HA:Hid (qG (I.map zQ.name) (C.map Prod.fst) x=⟨x.name,zH (C.map Prod.fst) x.conc,x.sum.map (xT (I.map zQ.name) (C.map Prod.fst)),x.nd.map (pY (I.map zQ.name) (C.map Prod.fst)),x.root⟩):=rfl;generalize qG (I.map zQ.name) (C.map Prod.fst) x=ans at *;generalize xT (I.map zQ.name) (C.map Prod.fst)=fp at *;generalize pY (I.map zQ.name) (C.map Prod.fst)=fn at *;obtain⟨kd,n1,lo,hi',cc,S,N,ro,te,de,lw⟩:=x;simp only at hs1 hn1 hsn hnn HS HN HSu HOw HCo HA;generalize zH (C.map Prod.fst) cc=fc at *;clear h hS hN hg;simp only[uJ];obtain⟨w0,hw0⟩:∃w0,w0=(w.alloc (.cells #[.int .i64 kd,.string ⟨n1.toArray⟩,.int .i64 lo,.int .i64 hi',.string ⟨cc.toArray⟩,.slice sa S.length sc,.slice na N.length nc,.int .i64 ro,.int .i64 te,.int .i64 de,.string ⟨lw.toArray⟩] 184)).alloc (.cells #[.string ⟨#[]⟩,.int .i64 0,.slice none 0 0,.slice none 0 0,.int .i64 0] 162):=⟨_,rfl⟩;have HB0:Hid (Below w.heap.size w w0):=by rw[hw0];exact(gb (j1 _) _).alloc (by simp) _
 have hL0:w0.heap[w.heap.size]? = some (.cells #[.int .i64 kd,.string ⟨n1.toArray⟩,.int .i64 lo,.int .i64 hi',.string ⟨cc.toArray⟩,.slice sa S.length sc,.slice na N.length nc,.int .i64 ro,.int .i64 te,.int .i64 de,.string ⟨lw.toArray⟩] 184 (0,0)):=by rw[hw0];exact zS (zG _ _)
 have HR0:Hid (w0.heap[w.heap.size+1]? = some (oA [] 0 (.slice none 0 0) (.slice none 0 0) 0)):=by rw[hw0];exact yS _ _ _ (by simp)
 have hs0:w0.heap.size=w.heap.size+2:=by rw[hw0];simp
 have HLc:Hid (∀w',Below w0.heap.size w0 w'->w'.cell? ⟨w.heap.size,1,none⟩=some (.string ⟨n1.toArray⟩)/\w'.cell? ⟨w.heap.size,4,none⟩=some (.string ⟨cc.toArray⟩)/\w'.cell? ⟨w.heap.size,5,none⟩=some (.slice sa S.length sc)/\w'.cell? ⟨w.heap.size,6,none⟩=some (.slice na N.length nc)/\w'.cell? ⟨w.heap.size,7,none⟩=some (.int .i64 ro)):=fun w' hb=>by
  have h1:w'.heap[w.heap.size]? = _:=(hb.block _ (by omega)).trans hL0;exact⟨(zB h1 1).trans rfl,(zB h1 4).trans rfl,(zB h1 5).trans rfl,(zB h1 6).trans rfl,(zB h1 7).trans rfl⟩
 have HW0:=zA hw0;have HBx:Hid (∀w',Below w0.heap.size w0 w'->Below w.heap.size w w'):=fun w' hb=>HB0.out.trans (hb.mono (by omega));have hsl:w.heap.size+2<=w0.heap.size:=by omega
 have HX4:Hid (∀(w4:World),Below (w0.drew.alloc (.cells #[.string ⟨#[]⟩,.int .i64 0,.slice none 0 0,.slice none 0 0,.int .i64 0] 162)).heap.size (w0.drew.alloc (.cells #[.string ⟨#[]⟩,.int .i64 0,.slice none 0 0,.slice none 0 0,.int .i64 0] 162)) w4->Below w0.heap.size w0 w4/\w4.heap[w0.heap.size]? = some (oA [] 0 (.slice none 0 0) (.slice none 0 0) 0)):=fun w4 hb4=>by
  refine⟨((pj (tg _ _)).alloc (j1 _) _).trans (hb4.mono (ph (zV w0.drew _))),?_⟩;exact(hb4.block w0.heap.size (zV w0.drew _)).trans (zG w0.drew _)
 have HX5:Hid (∀(w4 w5:World),Below w4.heap.size w4 w5->w4.heap[w0.heap.size]? = some (oA [] 0 (.slice none 0 0) (.slice none 0 0) 0)->w5.heap[w0.heap.size]? = some (oA [] 0 (.slice none 0 0) (.slice none 0 0) 0)):=fun w4 w5 hb h4=>by rw[hb.block _ (zJ h4)];exact h4
 have HX6:Hid (∀(w4:World),Below w0.heap.size w0 w4->Below w0.heap.size w0 (w4.alloc (.cells #[.string ⟨#[]⟩,.int .i64 0,.slice none 0 0,.slice none 0 0,.int .i64 0] 162))/\(w4.alloc (.cells #[.string ⟨#[]⟩,.int .i64 0,.slice none 0 0,.slice none 0 0,.int .i64 0] 162)).heap[w4.heap.size]? = some (oA [] 0 (.slice none 0 0) (.slice none 0 0) 0)):=fun w4 hb=>⟨hb.alloc hb.size _,zG _ _⟩;have HX7:Hid (∀(w4 w5:World),Below (w4.alloc (.cells #[.string ⟨#[]⟩,.int .i64 0,.slice none 0 0,.slice none 0 0,.int .i64 0] 162)).heap.size (w4.alloc (.cells #[.string ⟨#[]⟩,.int .i64 0,.slice none 0 0,.slice none 0 0,.int .i64 0] 162)) w5->(w4.alloc (.cells #[.string ⟨#[]⟩,.int .i64 0,.slice none 0 0,.slice none 0 0,.int .i64 0] 162)).heap[w4.heap.size]? = some (oA [] 0 (.slice none 0 0) (.slice none 0 0) 0)->w5.heap[w4.heap.size]? = some (oA [] 0 (.slice none 0 0) (.slice none 0 0) 0)):=fun w4 w5 hb h4=>by rw[hb.block _ (zJ h4)];exact h4
 have ls0:w.heap.size<w0.heap.size:=by omega
 have ns0:w0.heap.size≠w.heap.size:=by omega
 clear hL0 hw0 hs0
 go_enter Tryz.func93,Tryz.ntmps93
 go_upto_region 1 with fail
 rw[<-HW0.out];clear HW0;obtain⟨a1,a4,a5,a6,a7⟩:=HLc.out w0 (tg _ _)
 go_cut [5] from 12 to 58 (fun v5 wx=>∃rb,v5=.pointer (some ⟨rb,0,none⟩)/\Hid (wx.heap[rb]? = some (oA n1 fc (.slice none 0 0) (.slice none 0 0) ro))/\Hid (Below w0.heap.size w0 wx)/\w0.heap.size<=rb)
 case first =>
  go_region_held3 (fun w'=>w'.cell? ⟨w.heap.size,1,none⟩=some (.string ⟨n1.toArray⟩)/\w'.cell? ⟨w.heap.size,4,none⟩=some (.string ⟨cc.toArray⟩)/\w'.cell? ⟨w.heap.size,7,none⟩=some (.int .i64 ro)) (go_keep) (first
   | (go_at_call 92;refine(HOw.out _).mono ?_;rintro e w4 ⟨rfl,hb4⟩;first
    | (have hB4:Below w0.heap.size w0 w4:=(pj (tg _ _)).trans hb4;have hs4:=hB4.size;have ls4:w.heap.size<w4.heap.size:=(by omega);have ns4:w4.heap.size≠w.heap.size:=(by omega);obtain⟨b1,b4,b5,b6,b7⟩:=HLc.out w4 hB4)
    | (obtain⟨hB4,RZ4⟩:=HX4.out w4 hb4;have hs4:=hB4.size;have ls4:w.heap.size<w4.heap.size:=(by omega);have ns4:w4.heap.size≠w.heap.size:=(by omega);obtain⟨b1,b4,b5,b6,b7⟩:=HLc.out w4 hB4))
   | (go_at_call 137;first
    | (refine(HCo.out w4 (HBx.out _ hB4)).mono ?_;rintro e w5 ⟨rfl,hb5⟩;have hB5:Below w0.heap.size w0 w5:=hB4.trans (hb5.mono hB4.size);have hs5:=hB5.size;have ls5:w.heap.size<w5.heap.size:=(by omega);have ns5:w5.heap.size≠w.heap.size:=(by omega);obtain⟨d1,d4,d5,d6,d7⟩:=HLc.out w5 hB5;(try (have RZ5:=HX5.out w4 w5 hb5 RZ4;obtain⟨⟨o0,o1,o2,o3,o4⟩,p0,p1,p2,p3,p4⟩:=ug RZ5)))
    | (obtain⟨hBA,RZA⟩:=HX6.out w4 hB4;refine(HCo.out _ (HBx.out _ hBA)).mono ?_;rintro e w5 ⟨rfl,hb5⟩;have hB5:Below w0.heap.size w0 w5:=hBA.trans (hb5.mono hBA.size);have hs5:=hB5.size;have ls5:w.heap.size<w5.heap.size:=(by omega);have ns5:w5.heap.size≠w.heap.size:=(by omega);obtain⟨d1,d4,d5,d6,d7⟩:=HLc.out w5 hB5;have RZ6:=HX7.out w4 w5 hb5 RZA;obtain⟨⟨o0,o1,o2,o3,o4⟩,p0,p1,p2,p3,p4⟩:=ug RZ6)))
  all_goals
   go_wp2_with fail
   go_meet
   first
    | exact⟨w0.heap.size,rfl,zA (De RZ5 n1 fc ro (.slice none 0 0) (.slice none 0 0)),zA (XA hB5 (j1 _) _ _ _ _ _),j1 _⟩
    | exact⟨w4.heap.size,rfl,zA (De RZ6 n1 fc ro (.slice none 0 0) (.slice none 0 0)),zA (XA hB5 hs4 _ _ _ _ _),hs4⟩
    | exact⟨w5.heap.size,rfl,zA (zG w5 _),zA (hB5.alloc hs5 _),hs5⟩
 case rest =>
  obtain⟨rb,rfl,HRb,HBc,hrb⟩:=hcut;clear a1 a4 a5 a6 a7 HOw HCo HX4 HX5 HX6 HX7;obtain⟨-,-,a5,a6,-⟩:=HLc.out wc HBc.out;have hsc:=HBc.out.size;have lrb:=zJ HRb.out;have HBwc:=zA (HBx.out wc HBc.out);go_wp2_with fail
  go_loopw [26] (fun iv wr=>∃(i:Nat) (sv:Value),i<=S.length/\iv=.int .i64 i/\Hid (wr.heap[rb]? = some (oA n1 fc sv (.slice none 0 0) ro))/\Hid (wr.ownsRow wc.heap.size 260 3 sv i (((S.take i).map fp).flatMap tW))/\Hid (zC wc.heap.size rb wc wr)) (fun iv _=>S.length-(intOf iv).toNat)
  case atStart=>exact⟨0,_,p7 _,rfl,HRb,zA (iD _ _ _ _),zA (zC.refl _ _ _)⟩
  case round =>
   obtain⟨i,sv,hi,rfl,HR,HO,HK⟩:=hrel;have zLD:=HK.out.size;have zLJ:Hid (Below w.heap.size w wr):=HBwc.out.trans (HK.out.below (by omega) (by omega));by_cases zKZ:i<S.length
   ·obtain⟨g,yK,rfl,hp⟩:=(HS.out.below zLJ.out (j1 _)).blk (by omega)
    obtain⟨d0,d1,d2,d3⟩:=hp.cells zKZ;have hgl:=hp.lt;obtain⟨r2,-,rf⟩:=rY HR.out;have lrr:=zJ HR.out;have zLM:=zA (sY tW fp S i xz zKZ);rw[show S.getD i xz=Qf S i from rfl]at zLM;have hnum:=HSu.out i zKZ;have HMp1:=zA (fun w' hb=>HMp.out w' hb (Qf S i) hnum);have mg:wr.heap.size≠g:=by omega
    have mr:wr.heap.size≠rb:=by omega
    have HAft:Hid (∀(oo:Obj) (w4:World),Below (wr.alloc oo).heap.size (wr.alloc oo) w4->w4.ownsRow wc.heap.size 260 3 sv i (((S.take i).map fp).flatMap tW)/\w4.heap[rb]? = some (oA n1 fc sv (.slice none 0 0) ro)/\zC wc.heap.size rb wc w4/\wr.heap.size<w4.heap.size/\w4.cell? ⟨rb,2,none⟩=some sv/\rb<w4.heap.size/\w4.heap.size≠rb/\w4.heap.size+1≠rb):=fun oo w4 hb4=>by
     have h1:Below wr.heap.size wr w4:=(gb (j1 _) _).trans (hb4.mono (ph (zV _ _)));have h2:w4.heap[rb]? = some (oA n1 fc sv (.slice none 0 0) ro):=by rw[h1.block _ lrr];exact HR.out
     have h3:=zJ h2;exact⟨tV HO.out h1,h2,HK.out.trans (zC.of_below (h1.mono zLD)),tj (zV _ _) hb4.size,(rY h2).1,h3,by omega,by omega⟩
    have HBa:Hid (∀oo,Below w.heap.size w (wr.alloc oo)):=fun oo=>zLJ.out.alloc zLJ.out.size oo;clear hp rf hnum;generalize Qf S i=y at *;generalize fp y=fy at *;obtain⟨mi,st,nu,nm⟩:=y;obtain⟨y0,y1,y2⟩:=fy;simp only[oI,B7]at HMp1;simp only[tW]at zLM;simp only at d0 d1 d2 d3;go_wp2_with fail
    refine(HMp1.out _ (HBa.out _)).mono ?_;rintro e w4 ⟨rfl,hb4⟩;obtain⟨hO4,hR4,hK4,hs4,c42,l4,m4,m41⟩:=HAft.out _ w4 hb4;clear hb4
    go_wp2_with (at_builtin;refine wpList_append_own _ rfl _ _ 159 rfl wc.heap.size 260 i0 _ 3 24 Tryz.underlying159 hi0 hz0 hz1 hz2 rfl (by decide) _ _ _ rfl ((hO4.alloc _).alloc _) ⟨w4.heap.size+1,0,none⟩ 1 1 [.int .i64 y0,.int .i64 y1,.int .i64 y2] rfl rfl ?c1 ?c2 ?c3 ?c4 ?c5 ?_)
    case c1=>exact qT _ _ _ _ rfl (by simp)
    case c2=>intro u hu;simp at hu;rcases hu with rfl|rfl|rfl <;> rfl
    case c3=>unfold maxLen;omega
    case c4=>omega
    case c5=>simp;omega
    intro v' w5 zLF zL7 _;obtain⟨va',vc',rfl⟩:=zP zLF;have hR5:w5.heap[rb]? = some (oA n1 fc sv (.slice none 0 0) ro):=X3 zL7 (zS (zS hR4)) (zU hO4) lrb;obtain⟨c52,-,f5⟩:=rY hR5;have f52:=f5 2;have HO5:Hid ((w5.setCell ⟨rb,2,none⟩ (.slice va' (i+1) vc')).ownsRow wc.heap.size 260 3 (.slice va' (i+1) vc') (i+1) (((S.take (i+1)).map fp).flatMap tW)):=by unfold Hid;rw[zLM.out,List.map_take];exact cB zLF lrb
    have HK5:Hid (zC wc.heap.size rb wc (w5.setCell ⟨rb,2,none⟩ (.slice va' (i+1) vc'))):=(((hK4.alloc (by omega) _).alloc (by simp;omega) _).grown zL7 (by simp;omega) (zU hO4)).setCell (p:=⟨rb,2,none⟩) (.inr rfl) _;have HR5:Hid ((w5.setCell ⟨rb,2,none⟩ (.slice va' (i+1) vc')).heap[rb]? = some (oA n1 fc (.slice va' (i+1) vc') (.slice none 0 0) ro)):=zDC hR5;clear zLF zL7 f5 hO4 hK4;go_wp2_with fail
    go_roundw
    case rel=>exact⟨i+1,.slice va' (i+1) vc',by omega,by go_num,HR5,HO5,HK5⟩
    case measure=>simp[intOf];omega
   ·obtain rfl:i=S.length:=by omega
    have ii:¬(S.length:Int)<(S.length:Int):=by omega
    rw[bw]at HO;obtain⟨pa,pc,rfl,hcp⟩:=vR HO.out;have HCp:=zA hcp;have b6:wr.cell? ⟨w.heap.size,6,none⟩=some (.slice na N.length nc):=by rw[HK.out.cell (p:=⟨w.heap.size,6,none⟩) (show w.heap.size<wc.heap.size by omega) (show w.heap.size≠rb by omega)];exact a6
    have HRs:Hid (wr.heap[w.heap.size+1]? = some (oA [] 0 (.slice none 0 0) (.slice none 0 0) 0)):=by unfold Hid;rw[HK.out.block _ (show w.heap.size+1<wc.heap.size by omega) (show w.heap.size+1≠rb by omega),HBc.out.block _ (by omega)];exact HR0.out
    have lrr:=zJ HR.out;clear hcp HO a5 a6;generalize hwr2:wr=wr2 at *;clear hwr2;go_wp2_with fail
    go_loopw [44] (fun iv wr=>∃(i:Nat) (gv:Value),i<=N.length/\iv=.int .i64 i/\Hid (wr.heap[rb]? = some (oA n1 fc (.slice pa S.length pc) gv ro))/\Hid (wr.ownsRow wr2.heap.size 263 10 gv i (((N.take i).map fn).flatMap qN))/\Hid (zC wr2.heap.size rb wr2 wr)) (fun iv _=>N.length-(intOf iv).toNat)
    case atStart=>exact⟨0,_,p7 _,rfl,HR,zA (iD _ _ _ _),zA (zC.refl _ _ _)⟩
    case round =>
     obtain⟨i,gv,hi,rfl,HRn,HOn,HKn⟩:=hrel;have hszn:=HKn.out.size;have HBwn:Hid (Below w.heap.size w wr):=zLJ.out.trans (HKn.out.below (by omega) (by omega));by_cases hln:i<N.length
     ·obtain⟨g,yK,rfl,hp⟩:=(HN.out.below HBwn.out (j1 _)).blk (by omega)
      obtain⟨d0,d1,d2,d3,d4,d5,d6⟩:=hp.cells hln;have hgl:=hp.lt;obtain⟨-,r3,rf⟩:=rY HRn.out;have lrn:=zJ HRn.out;have zLM:=zA (sY qN fn N i nz hln);rw[show N.getD i nz=pM N i from rfl]at zLM;have HMn1:=zA (fun w' hb=>HMn.out w' hb (pM N i));have mg:wr.heap.size≠g:=by omega
      have mr:wr.heap.size≠rb:=by omega
      have HAft:Hid (∀(oo:Obj) (w4:World),Below (wr.alloc oo).heap.size (wr.alloc oo) w4->w4.ownsRow wr2.heap.size 263 10 gv i (((N.take i).map fn).flatMap qN)/\w4.heap[rb]? = some (oA n1 fc (.slice pa S.length pc) gv ro)/\zC wr2.heap.size rb wr2 w4/\wr.heap.size<w4.heap.size/\w4.cell? ⟨rb,3,none⟩=some gv/\rb<w4.heap.size/\w4.heap.size≠rb/\w4.heap.size+1≠rb):=fun oo w4 hb4=>by
       have h1:Below wr.heap.size wr w4:=(gb (j1 _) _).trans (hb4.mono (ph (zV _ _)));have h2:w4.heap[rb]? = some (oA n1 fc (.slice pa S.length pc) gv ro):=by rw[h1.block _ lrn];exact HRn.out
       have h3:=zJ h2;exact⟨tV HOn.out h1,h2,HKn.out.trans (zC.of_below (h1.mono hszn)),tj (zV _ _) hb4.size,(rY h2).2.1,h3,by omega,by omega⟩
      have HBa:Hid (∀oo,Below w.heap.size w (wr.alloc oo)):=fun oo=>HBwn.out.alloc HBwn.out.size oo;clear hp rf;generalize pM N i=y at *;generalize fn y=fy at *;obtain⟨kd',lf',rg',nm',mk',ot',nu'⟩:=y;obtain⟨y0,y1,y2,y3,y4,y5,y6,y7,y8,y9⟩:=fy;simp only[kO,nD]at HMn1;simp only[qN]at zLM;simp only at d0 d1 d2 d3 d4 d5 d6;go_wp2_with fail
      refine(HMn1.out _ (HBa.out _)).mono ?_;rintro e w4 ⟨rfl,hb4⟩;obtain⟨hO4,hR4,hK4,hs4,c43,l4,m4,m41⟩:=HAft.out _ w4 hb4;clear hb4
      go_wp2_with (at_builtin;refine wpList_append_own _ rfl _ _ 160 rfl wr2.heap.size 263 j0 _ 10 64 Tryz.underlying160 hj0 hj1 hj2 hj3 rfl (by decide) _ _ _ rfl ((hO4.alloc _).alloc _) ⟨w4.heap.size+1,0,none⟩ 1 1 [.int .i64 y0,.int .i64 y1,.int .i64 y2,.int .i64 y3,.bool y4,.int .i64 y5,.int .i64 y6,.bool y7,.bool y8,.bool y9] rfl rfl ?c1 ?c2 ?c3 ?c4 ?c5 ?_)
      case c1=>exact qT _ _ _ _ rfl (by simp)
      case c2=>intro u hu;simp at hu;rcases hu with rfl|rfl|rfl|rfl|rfl|rfl|rfl|rfl|rfl|rfl <;> rfl
      case c3=>unfold maxLen;omega
      case c4=>omega
      case c5=>simp;omega
      intro v' w5 zLF zL7 _;obtain⟨va',vc',rfl⟩:=zP zLF;have hR5:w5.heap[rb]? = some (oA n1 fc (.slice pa S.length pc) gv ro):=X3 zL7 (zS (zS hR4)) (zU hO4) lrr;obtain⟨-,c53,f5⟩:=rY hR5;have f53:=f5 3;have HO5:Hid ((w5.setCell ⟨rb,3,none⟩ (.slice va' (i+1) vc')).ownsRow wr2.heap.size 263 10 (.slice va' (i+1) vc') (i+1) (((N.take (i+1)).map fn).flatMap qN)):=by unfold Hid;rw[zLM.out,List.map_take];exact cB zLF lrr
      have HK5:Hid (zC wr2.heap.size rb wr2 (w5.setCell ⟨rb,3,none⟩ (.slice va' (i+1) vc'))):=(((hK4.alloc (by omega) _).alloc (by simp;omega) _).grown zL7 (by simp;omega) (zU hO4)).setCell (p:=⟨rb,3,none⟩) (.inr rfl) _;have HR5:Hid ((w5.setCell ⟨rb,3,none⟩ (.slice va' (i+1) vc')).heap[rb]? = some (oA n1 fc (.slice pa S.length pc) (.slice va' (i+1) vc') ro)):=zDB hR5;clear zLF zL7 f5 hO4 hK4;go_wp2_with fail
      go_roundw
      case rel=>exact⟨i+1,.slice va' (i+1) vc',by omega,by go_num,HR5,HO5,HK5⟩
      case measure=>simp[intOf];omega
     ·obtain rfl:i=N.length:=by omega
      have ii2:¬(N.length:Int)<(N.length:Int):=by omega
      rw[bw]at HOn;obtain⟨ga,gc,rfl,hcg⟩:=vR HOn.out;have HCg:=zA hcg;have HCp2:Hid (yZ wr 260 pa ((S.map fp).flatMap tW)):=HCp.out.keeps HKn.out (by have h8:=HR.out;unfold oA at h8;exact h8) (by decide);have HRs2:Hid (wr.heap[w.heap.size+1]? = some (oA [] 0 (.slice none 0 0) (.slice none 0 0) 0)):=by unfold Hid;rw[HKn.out.block _ (by omega) (by omega)];exact HRs.out
      clear hcg HOn
      go_wp2_with (first
       | (refine wpList_load_row ?zLA 162 (.tmp 5) ?ho rb ?hx 162 (F5 n1 fc (.slice pa S.length pc) (.slice ga N.length gc) ro) (0,0) _ HRn.out Tryz.underlying162 rfl (UZ _ _ _ _ _) ?_
          case ho=>rfl
          case zLA=>rfl
          case hx=>rfl)
       | (refine wpList_store_row ?zLA 162 (.tmp 4) (.tmp 58) ?ho (w.heap.size+1) (F5 n1 fc (.slice pa S.length pc) (.slice ga N.length gc) ro) ?hx ?hy 162 (F5 [] 0 (.slice none 0 0) (.slice none 0 0) 0) HRs2.out (UZ _ _ _ _ _) rfl (by simp[F5,Value.oneCell']) ?_
          case ho=>rfl
          case zLA=>rfl
          case hx=>rfl
          case hy=>rfl))
      have HFin:Hid (uL (wr.setRow (w.heap.size+1) (F5 n1 fc (.slice pa S.length pc) (.slice ga N.length gc) ro)) (⟨n1,fc,S.map fp,N.map fn,ro⟩,.slice pa S.length pc,.slice ga N.length gc)):=by
       refine⟨⟨pa,pc,by simp,?_⟩,⟨ga,gc,by simp,?_⟩,by simp;omega,by simp;omega⟩
       ·exact HCp2.out.keep fun g cs fz hg=>setRow_other _ _ _ _ (fun e=>by subst e;have h8:=HRs2.out;unfold oA at h8;rw[h8]at hg;simp at hg)
       ·exact HCg.out.keep fun g cs fz hg=>setRow_other _ _ _ _ (fun e=>by subst e;have h8:=HRs2.out;unfold oA at h8;rw[h8]at hg;simp at hg)
      refine pe (v:=uC (⟨n1,fc,S.map fp,N.map fn,ro⟩,.slice pa S.length pc,.slice ga N.length gc)) (results_cell_row Tryz.results93 _ _ (w.heap.size+1) 162 (F5 n1 fc (.slice pa S.length pc) (.slice ga N.length gc) ro) (0,0) _ rfl (cg _ _ _ _ _ _ HRs2.out) Tryz.underlying162 rfl (UZ _ _ _ _ _)) rfl (show C8 ans w _ _ from ⟨(⟨n1,fc,S.map fp,N.map fn,ro⟩,.slice pa S.length pc,.slice ga N.length gc),HA.out.symm,rfl,HFin.out,xI HBwn.out (by omega) _⟩)
theorem Xh{w2:World}{ob:Obj}(hg:(w.alloc ob).grownBy w2 v.ownBlock){x:Obj}(h:w.heap[b]? = some x)(hr:∀k,v.ownBlock=some k->B<=k)(hB:b<B):w2.heap[b]? = some x:=by
 have hb:=zJ h;rw[hg.block b (by simp;omega) (fun e=>by have:=hr b e.symm;omega)];exact zS h
structure bZ(w:World)(iv cv rv:Value)(I:List zQ)(C:List (Bs × Nat))(rs:List MX):Prop where
 inp:∃a c,iv=.slice a I.length c/\yZ w 204 a (I.flatMap uI)
 con:∃a c,cv=.slice a C.length c/\yZ w 208 a (Zj C)
 rul:∃a c,rv=.slice a rs.length c/\yZ w 162 a (rs.flatMap jL)
 rows:∀x∈rs,uL w x
 few1:I.length<=10000
 few2:C.length<=10000
 few3:rs.length<=10000
def ZC(F:List zE)(w w':World)(e:Ending):Prop:=∃iv cv rv rs,e=.returned (.agg (dM iv cv rv (yB (uW (vD F) F gZ))))/\rs.map Prod.fst=uQ ((zX F).map zQ.name) ((yY F).map Prod.fst) F/\bZ w' iv cv rv (zX F) (yY F) rs/\Below w.heap.size w w'
theorem zEA(F:List zE)(w w':World)(e:Ending)(I:List zQ)(C:List (Bs × Nat))(G:List Bool)(iv cv rv:Value)(rs:List MX)(h1:I=zX F)(h2:C=yY F)(h3:G=yB (uW (vD F) F gZ))(h4:rs.map Prod.fst=uQ (I.map zQ.name) (C.map Prod.fst) F)(h5:bZ w' iv cv rv I C rs)(h6:Below w.heap.size w w')(h7:e=.returned (.agg (dM iv cv rv G))):ZC F w w' e:=by
 unfold ZC;rw[<-h1,<-h2,<-h3];exact⟨iv,cv,rv,rs,h7,h4,h5,h6⟩
theorem Gs:(Tryz.prog.info? 162).map (fun i=>(i.zero,i.size,i.bytes))=some (some (.agg #[.string ⟨#[]⟩,.int .i64 0,.slice none 0 0,.slice none 0 0,.int .i64 0]),5,80):=by kernel_rfl
theorem Jj{w4 w5:World}{A1 A2:Obj}{rv:Value}{n mb:Nat}{ys:List Value}{iv cv rv2:Value}{G:List Bool}{a:Option Addr}(h:yZ w4 t a xs)(h1:t≠162)(h2:t≠127)(zL1:w4.ownsRow B 162 5 rv n ys)(hg:((w4.alloc A1).alloc A2).grownBy w5 rv.ownBlock)(hM:w5.heap[mb]? = some (bU iv cv rv2 G)):yZ (w5.setCell ⟨mb,2,none⟩ v) t a xs :=
 (((h.below (gb (j1 _) A1)).below (gb (j1 _) A2)).grown ((zL1.alloc A1).alloc A2) h1 hg).set (by unfold bU at hM;exact hM) h2
theorem FT{w4 w5:World}{A1 A2:Obj}{rv:Value}{n mb:Nat}{ys:List Value}{iv cv rv2:Value}{G:List Bool}{z:MX}(h:uL w4 z)(zL1:w4.ownsRow B 162 5 rv n ys)(hg:((w4.alloc A1).alloc A2).grownBy w5 rv.ownBlock)(hM:w5.heap[mb]? = some (bU iv cv rv2 G)):uL (w5.setCell ⟨mb,2,none⟩ v) z:=by
 obtain⟨a',c',h1,h2⟩:=h.sum;obtain⟨a'',c'',h3,h4⟩:=h.guard;exact⟨⟨a',c',h1,Jj h2 (by decide) (by decide) zL1 hg hM⟩,⟨a'',c'',h3,Jj h4 (by decide) (by decide) zL1 hg hM⟩,h.few1,h.few2⟩
theorem jo:(Tryz.prog.info? 204).map (fun i=>(i.zero,i.size,i.bytes))=some (some (.agg #[.string ⟨#[]⟩,.bool false,.int .i64 0,.int .i64 0]),4,40):=by kernel_rfl
def zK4(x:Bs × Nat):List Value:=[.string ⟨x.1.toArray⟩,.int .i64 (x.2:Nat)]
end Go.Proofs.YtnbpdffdnphbeabGreatDoor
