import Derived.Test.YtnbpdffdnphbeabGreatDoorDCel
import Derived.Deep.CutBlock
import Derived.Great.BuildSlice
open Go.Proofs.Tryz
set_option maxHeartbeats 10000000
set_option maxRecDepth 100000
namespace Go.Proofs.YtnbpdffdnphbeabGreatDoor
open Go.RowKit
variable{ei:Bs}{ro cc p k n:Int}{xs:List Value}{o b B:Nat}{t:TypeId}{v gv sv:Value}{w W:World}{y:kP}{x:yT}
structure Jg(w:World)(b o:Nat)(I:List yA)(C:List (Bs × Nat)):Prop where
 inp:∃ia ic,w.cell? ⟨b,o,none⟩=some (.slice ia I.length ic)/\kQ w ia (I.flatMap kD)
 r9:∃ca cc,w.cell? ⟨b,o+1,none⟩=some (.slice ca C.length cc)/\kQ w ca (C.flatMap EJ)
 ek:I.length<=10000
 ef:C.length<=10000
theorem Jg.below{w':World}{I:List yA}{C:List (Bs × Nat)}(h:Jg w b o I C)(hb:Below w.heap.size w w'):Jg w' b o I C:=by
 obtain⟨ia,ic,h1,h2⟩:=h.inp;obtain⟨ca,cc,h3,h4⟩:=h.r9;exact⟨⟨ia,ic,by rw[hb.cell (p:=⟨b,o,none⟩) (yJ h1)];exact h1,h2.below hb⟩,⟨ca,cc,by rw[hb.cell (p:=⟨b,o+1,none⟩) (yJ h3)];exact h3,h4.below hb⟩,h.ek,h.ef⟩
theorem Jg.find{I:List yA}{C:List (Bs × Nat)}(h:Jg w b o I C)(nm:Bs):Calls prog 86 #[.pointer (some ⟨b,o,none⟩),.string ⟨nm.toArray⟩] w λe w'=>e=.returned (.int .i64 (zQ (I.map yA.name) nm))/\Below w.heap.size w w':=by
 obtain⟨ia,ic,h1,h2⟩:=h.inp;exact BR w b o ia ic I nm h1 h2 h.ek
theorem Jg.ou{I:List yA}{C:List (Bs × Nat)}(h:Jg w b o I C)(nm:Bs):Calls prog 137 #[.pointer (some ⟨b,o,none⟩),.string ⟨nm.toArray⟩] w λe w'=>e=.returned (.int .i64 (zQ (C.map Prod.fst) nm))/\Below w.heap.size w w':=by
 obtain⟨ca,cc,h1,h2⟩:=h.r9;exact DU w b o ca cc C nm h1 h2 h.ef
def rp(y:kP):Array Value := #[.int .i64 y.kind,.int .i64 y.left,.int .i64 y.right,.int .i64 y.place,.bool y.two,.int .i64 y.other,.int .i64 y.num,.bool y.less,.bool y.equal,.bool y.more]
def Ae(y:kP):Obj:=.cells (rp y) 263 (0,0)
def Ha(x:zJ):Obj:=.cells #[.int .i64 x.kind,.int .i64 x.left,.int .i64 x.right,.string ⟨x.name.toArray⟩,.string ⟨x.mark.toArray⟩,.string ⟨x.other.toArray⟩,.int .i64 x.num] 238 (0,0)
theorem Dl(y:kP):(prog.info? 263).map (·.size)=some (rp y).size:=by show _=some 10;kernel_rfl
structure Fp(w W:World)(x:zJ)(y:kP):Prop where
 src:W.heap[w.heap.size]? = some (Ha x)
 res:W.heap[w.heap.size+1]? = some (Ae sG)
 ep:W.heap[w.heap.size+1+1]? = some (Ae y)
 af:Below w.heap.size w W
theorem Fp.below{W':World}{x:zJ}(h:Fp w W x y)(hb:Below W.heap.size W W'):Fp w W' x y :=
 ⟨by rw[hb.block _ (zP h.src)];exact h.src,by rw[hb.block _ (zP h.res)];exact h.res,by rw[hb.block _ (zP h.ep)];exact h.ep,h.af.trans (hb.mono h.af.size)⟩
theorem Fp.set{x:zJ}{y':kP}(h:Fp w W x y){j:Nat}(e:(rp y).setIfInBounds j v=rp y'):Fp w (W.setCell ⟨w.heap.size+1+1,j,none⟩ v) x y' :=
 ⟨by rw[l6 _ _ _ _ (show w.heap.size≠w.heap.size+1+1 by omega)];exact h.src,by rw[l6 _ _ _ _ (show w.heap.size+1≠w.heap.size+1+1 by omega)];exact h.res,by have h1:=h.ep;unfold Ae at h1 ⊢;rw[p9 W _ j _ _ _ h1,<-e],h.af.setCell (p:=⟨w.heap.size+1+1,j,none⟩) (show w.heap.size<=w.heap.size+1+1 by omega) _⟩
theorem Fp.cells{x:zJ}(h:Fp w W x y):(W.cell? ⟨w.heap.size,0,none⟩=some (.int .i64 x.kind)/\W.cell? ⟨w.heap.size,3,none⟩=some (.string ⟨x.name.toArray⟩)/\W.cell? ⟨w.heap.size,4,none⟩=some (.string ⟨x.mark.toArray⟩)/\W.cell? ⟨w.heap.size,5,none⟩=some (.string ⟨x.other.toArray⟩)) /\
 (W.cell? ⟨w.heap.size+1+1,3,none⟩=some (.int .i64 y.place)/\W.cell? ⟨w.heap.size+1+1,4,none⟩=some (.bool y.two)/\W.cell? ⟨w.heap.size+1+1,5,none⟩=some (.int .i64 y.other)/\W.cell? ⟨w.heap.size+1+1,7,none⟩=some (.bool y.less)/\W.cell? ⟨w.heap.size+1+1,8,none⟩=some (.bool y.equal)/\W.cell? ⟨w.heap.size+1+1,9,none⟩=some (.bool y.more)) /\
 (W.frozen? ⟨w.heap.size+1+1,3,none⟩=false/\W.frozen? ⟨w.heap.size+1+1,4,none⟩=false/\W.frozen? ⟨w.heap.size+1+1,5,none⟩=false/\W.frozen? ⟨w.heap.size+1+1,7,none⟩=false/\W.frozen? ⟨w.heap.size+1+1,8,none⟩=false/\W.frozen? ⟨w.heap.size+1+1,9,none⟩=false):=by
 have h1:=h.src;unfold Ha at h1;have h2:=h.ep;unfold Ae rp at h2;have hf:∀j,W.frozen? ⟨w.heap.size+1+1,j,none⟩=false:=λj=>by simp[World.frozen?,h2]
 exact⟨⟨(zC h1 0).trans rfl,(zC h1 3).trans rfl,(zC h1 4).trans rfl,(zC h1 5).trans rfl⟩,⟨(zC h2 3).trans rfl,(zC h2 4).trans rfl,(zC h2 5).trans rfl,(zC h2 7).trans rfl,(zC h2 8).trans rfl,(zC h2 9).trans rfl⟩,hf 3,hf 4,hf 5,hf 7,hf 8,hf 9⟩
theorem Dw(w:World)(b o:Nat)(I:List yA)(C:List (Bs × Nat))(h:Jg w b o I C)(x:zJ) :
 Calls prog 139 #[.pointer (some ⟨b,o,none⟩),kI x] w λe w'=>e=.returned (oM (lF (I.map yA.name) (C.map Prod.fst) x))/\Below w.heap.size w w':=by
 have HF:=zA (λw' (hb:Below w.heap.size w w') nm=>(h.below hb).find nm);have HC:=zA (λw' (hb:Below w.heap.size w w') nm=>(h.below hb).ou nm);have bL:Hid (BV (I.map yA.name) (C.map Prod.fst) x=if x.kind=5 then zQ (C.map Prod.fst) x.name else if x.kind=6\/x.kind=7 then zQ (I.map yA.name) x.name else 0):=rfl;have bX:Hid (wo (I.map yA.name) x=if x.other=[] then 0 else zQ (I.map yA.name) x.other):=rfl;have HA:Hid (lF (I.map yA.name) (C.map Prod.fst) x=⟨x.kind,x.left,x.right,BV (I.map yA.name) (C.map Prod.fst) x,decide (x.other≠[]),wo (I.map yA.name) x,x.num,FW x.mark,Vi x.mark,FU x.mark⟩):=rfl;have bD:Hid (∀m,FW m=decide (m=[60]\/m=[60,61]\/m=[33,61])):=λ_=>rfl;have HEq:Hid (∀m,Vi m=decide (m=[60,61]\/m=[61]\/m=[62,61])):=λ_=>rfl;have bC:Hid (∀m,FU m=decide (m=[62]\/m=[62,61]\/m=[33,61])):=λ_=>rfl;generalize lF (I.map yA.name) (C.map Prod.fst) x=bp at *;generalize BV (I.map yA.name) (C.map Prod.fst) x=pl at *;generalize wo (I.map yA.name) x=aM at *;clear h;obtain⟨kd,lf,rg,nm,mk,ot,nu⟩:=x;simp only at HA bL bX
 replace bD:=zA (bD.out mk)
 replace HEq:=zA (HEq.out mk)
 replace bC:=zA (bC.out mk)
 generalize FW mk=ls at *;generalize Vi mk=eq at *;generalize FU mk=mo at *;have b8:=zA (λw' hb=>HF.out w' hb nm);have cW:=zA (λw' hb=>HF.out w' hb ot);have cX:=zA (λw' hb=>HC.out w' hb nm);clear HF HC;generalize zQ (I.map yA.name) nm=f1 at *;generalize zQ (I.map yA.name) ot=f3 at *;generalize zQ (C.map Prod.fst) nm=f2 at *;simp only[kI];have aI:Hid (Fp w (((w.alloc (Ha ⟨kd,lf,rg,nm,mk,ot,nu⟩)).alloc (Ae sG)).alloc (Ae ⟨kd,lf,rg,0,false,0,nu,false,false,false⟩)) ⟨kd,lf,rg,nm,mk,ot,nu⟩ ⟨kd,lf,rg,0,false,0,nu,false,false,false⟩):=⟨yD (yD (zF _ _)),yD (uA _ _ _ (by simp)),uA _ _ _ (by simp),((fk (tg _) _).alloc (by simp) _).alloc (by simp;omega) _⟩
 go_enter func139,ntmps139
 go_upto_block 0 with fail
 go_cut [5] from 6 to 62 (λv5 wx=>v5=.pointer (some ⟨w.heap.size+1+1,0,none⟩)/\Hid (Fp w wx ⟨kd,lf,rg,nm,mk,ot,nu⟩ ⟨kd,lf,rg,pl,false,0,nu,false,false,false⟩))
 case first =>
  by_cases k5:kd=5
  ·subst k5
   have aK:Hid (pl=f2):=bL.out.trans (tr rfl);go_wp2_with fail
   refine(cX.out _ aI.out.af).mono ?_;rintro e w4 ⟨rfl,aA⟩;have aB:=zA (aI.out.below aA);obtain⟨⟨s0,s3,s4,s5⟩,⟨m3,m4,m5,m7,m8,m9⟩,z3,z4,z5,z7,z8,z9⟩:=aB.out.cells;simp only at s0 s3 s4 s5 m3 m4 m5 m7 m8 m9;clear aA;go_wp2_with fail
   go_meet
   exact⟨rfl,zA (aB.out.set (by rw[aK.out];rfl))⟩
  ·by_cases ax:kd=6\/kd=7
   ·have aK:Hid (pl=f1):=bL.out.trans ((tj k5).trans (tr ax))
    have b5:(kd==5)=false:=(by simpa using k5);rcases ax with rfl|rfl
    ·go_wp2_with fail
     refine(b8.out _ aI.out.af).mono ?_;rintro e w4 ⟨rfl,aA⟩;have aB:=zA (aI.out.below aA);obtain⟨⟨s0,s3,s4,s5⟩,⟨m3,m4,m5,m7,m8,m9⟩,z3,z4,z5,z7,z8,z9⟩:=aB.out.cells;simp only at s0 s3 s4 s5 m3 m4 m5 m7 m8 m9;clear aA;go_wp2_with fail
     go_meet
     exact⟨rfl,zA (aB.out.set (by rw[aK.out];rfl))⟩
    ·go_wp2_with fail
     refine(b8.out _ aI.out.af).mono ?_;rintro e w4 ⟨rfl,aA⟩;have aB:=zA (aI.out.below aA);obtain⟨⟨s0,s3,s4,s5⟩,⟨m3,m4,m5,m7,m8,m9⟩,z3,z4,z5,z7,z8,z9⟩:=aB.out.cells;simp only at s0 s3 s4 s5 m3 m4 m5 m7 m8 m9;clear aA;go_wp2_with fail
     go_meet
     exact⟨rfl,zA (aB.out.set (by rw[aK.out];rfl))⟩
   ·have aK:Hid (pl=0):=bL.out.trans ((tj k5).trans (tj ax))
    have b5:(kd==5)=false:=(by simpa using k5);have b6:(kd==6)=false:=(by simpa using λe=>ax (.inl e));have b7:(kd==7)=false:=(by simpa using λe=>ax (.inr e));clear k5 ax;go_wp2_with fail
    go_meet
    exact⟨rfl,by rw[aK.out];exact aI⟩
 case rest =>
  obtain⟨rfl,aH⟩:=hcut;clear aI bL cX b8;obtain⟨⟨s0,s3,s4,s5⟩,⟨m3,m4,m5,m7,m8,m9⟩,z3,z4,z5,z7,z8,z9⟩:=aH.out.cells;simp only at s0 s3 s4 s5 m3 m4 m5 m7 m8 m9
  go_upto_if 34 with fail
  go_cut [5] from 6 to 62 (λv5 wx=>v5=.pointer (some ⟨w.heap.size+1+1,0,none⟩)/\Hid (Fp w wx ⟨kd,lf,rg,nm,mk,ot,nu⟩ ⟨kd,lf,rg,pl,decide (ot≠[]),aM,nu,false,false,false⟩))
  case first =>
   by_cases ko:ot=[]
   ·subst ko
    have bw:Hid (aM=0):=bX.out.trans (tr rfl);go_wp2_with fail
    go_meet
    exact⟨rfl,by rw[bw.out];exact aH⟩
   ·have bw:Hid (aM=f3):=bX.out.trans (tj ko)
    have dF:Hid (decide (ot≠[])=true):=tz ko;have b0:List.isEmpty ot=false:=(by cases ot with|nil=>exact x' rfl ko|cons _ _=>rfl);clear ko;have b1:(!List.isEmpty ot)=true:=(by rw[b0];rfl);rw[b1];have aQ:Hid (Fp w (wc.setCell ⟨w.heap.size+1+1,4,none⟩ (.bool true)) ⟨kd,lf,rg,nm,mk,ot,nu⟩ ⟨kd,lf,rg,pl,true,0,nu,false,false,false⟩):=aH.out.set rfl;go_wp2_with fail
    refine(cW.out _ aQ.out.af).mono ?_;rintro e w4 ⟨rfl,aA⟩;have aB:=zA (aQ.out.below aA);obtain⟨⟨t0,t3,t4,t5⟩,⟨n3,n4,n5,n7,n8,n9⟩,y3,y4,y5,y7,y8,y9⟩:=aB.out.cells;simp only at t0 t3 t4 t5 n3 n4 n5 n7 n8 n9;clear aA;go_wp2_with fail
    go_meet
    exact⟨rfl,zA (aB.out.set (by rw[bw.out,dF.out];rfl))⟩
  case rest =>
   obtain⟨rfl,aQ⟩:=hcut;clear aH s0 s3 s4 s5 m3 m4 m5 m7 m8 m9 z3 z4 z5 z7 z8 z9 cW bX;generalize decide (ot≠[])=tw at *
   rename_i wd
   obtain⟨⟨s0,s3,s4,s5⟩,⟨m3,m4,m5,m7,m8,m9⟩,z3,z4,z5,z7,z8,z9⟩:=aQ.out.cells;simp only at s0 s3 s4 s5 m3 m4 m5 m7 m8 m9
   go_upto_block 1 with fail
   go_cut [5] from 6 to 62 (λv5 wx=>v5=.pointer (some ⟨w.heap.size+1+1,0,none⟩)/\Hid (Fp w wx ⟨kd,lf,rg,nm,mk,ot,nu⟩ ⟨kd,lf,rg,pl,tw,aM,nu,ls,false,false⟩))
   case first =>
    by_cases e0:mk=[60]
    ·subst e0
     have HV:Hid (ls=true):=bD.out.trans (by decide);go_wp2_with fail
     go_meet
     exact⟨rfl,zA (aQ.out.set (by rw[HV.out];rfl))⟩
    by_cases e1:mk=[60,61]
    ·subst e1
     have HV:Hid (ls=true):=bD.out.trans (by decide);go_wp2_with fail
     go_meet
     exact⟨rfl,zA (aQ.out.set (by rw[HV.out];rfl))⟩
    by_cases e2:mk=[33,61]
    ·subst e2
     have HV:Hid (ls=true):=bD.out.trans (by decide);go_wp2_with fail
     go_meet
     exact⟨rfl,zA (aQ.out.set (by rw[HV.out];rfl))⟩
    have HV:Hid (ls=false):=bD.out.trans (ty (by rintro(h|h|h);exact e0 h;exact e1 h;exact e2 h));have b0:(mk==[60])=false:=(by simpa using e0);have b1:(mk==[60,61])=false:=(by simpa using e1);have b2:(mk==[33,61])=false:=(by simpa using e2);clear e0 e1 e2;go_wp2_with fail
    go_meet
    exact⟨rfl,by rw[HV.out];exact aQ⟩
   case rest =>
    obtain⟨rfl,bB⟩:=hcut;clear aQ s0 s3 s4 s5 m3 m4 m5 m7 m8 m9 z3 z4 z5 z7 z8 z9;obtain⟨⟨s0,s3,s4,s5⟩,⟨m3,m4,m5,m7,m8,m9⟩,z3,z4,z5,z7,z8,z9⟩:=bB.out.cells;simp only at s0 s3 s4 s5 m3 m4 m5 m7 m8 m9
    go_upto_block 2 with fail
    go_cut [5] from 6 to 62 (λv5 wx=>v5=.pointer (some ⟨w.heap.size+1+1,0,none⟩)/\Hid (Fp w wx ⟨kd,lf,rg,nm,mk,ot,nu⟩ ⟨kd,lf,rg,pl,tw,aM,nu,ls,eq,false⟩))
    case first =>
     by_cases e0:mk=[60,61]
     ·subst e0
      have HV:Hid (eq=true):=HEq.out.trans (by decide);go_wp2_with fail
      go_meet
      exact⟨rfl,zA (bB.out.set (by rw[HV.out];rfl))⟩
     by_cases e1:mk=[61]
     ·subst e1
      have HV:Hid (eq=true):=HEq.out.trans (by decide);go_wp2_with fail
      go_meet
      exact⟨rfl,zA (bB.out.set (by rw[HV.out];rfl))⟩
     by_cases e2:mk=[62,61]
     ·subst e2
      have HV:Hid (eq=true):=HEq.out.trans (by decide);go_wp2_with fail
      go_meet
      exact⟨rfl,zA (bB.out.set (by rw[HV.out];rfl))⟩
     have HV:Hid (eq=false):=HEq.out.trans (ty (by rintro(h|h|h);exact e0 h;exact e1 h;exact e2 h));have b0:(mk==[60,61])=false:=(by simpa using e0);have b1:(mk==[61])=false:=(by simpa using e1);have b2:(mk==[62,61])=false:=(by simpa using e2);clear e0 e1 e2;go_wp2_with fail
     go_meet
     exact⟨rfl,by rw[HV.out];exact bB⟩
    case rest =>
     obtain⟨rfl,aB⟩:=hcut;clear bB s0 s3 s4 s5 m3 m4 m5 m7 m8 m9 z3 z4 z5 z7 z8 z9;obtain⟨⟨s0,s3,s4,s5⟩,⟨m3,m4,m5,m7,m8,m9⟩,z3,z4,z5,z7,z8,z9⟩:=aB.out.cells;simp only at s0 s3 s4 s5 m3 m4 m5 m7 m8 m9
     go_upto_block 3 with fail
     go_cut [5] from 6 to 62 (λv5 wx=>v5=.pointer (some ⟨w.heap.size+1+1,0,none⟩)/\Hid (Fp w wx ⟨kd,lf,rg,nm,mk,ot,nu⟩ ⟨kd,lf,rg,pl,tw,aM,nu,ls,eq,mo⟩))
     case first =>
      by_cases e0:mk=[62]
      ·subst e0
       have HV:Hid (mo=true):=bC.out.trans (by decide);go_wp2_with fail
       go_meet
       exact⟨rfl,zA (aB.out.set (by rw[HV.out];rfl))⟩
      by_cases e1:mk=[62,61]
      ·subst e1
       have HV:Hid (mo=true):=bC.out.trans (by decide);go_wp2_with fail
       go_meet
       exact⟨rfl,zA (aB.out.set (by rw[HV.out];rfl))⟩
      by_cases e2:mk=[33,61]
      ·subst e2
       have HV:Hid (mo=true):=bC.out.trans (by decide);go_wp2_with fail
       go_meet
       exact⟨rfl,zA (aB.out.set (by rw[HV.out];rfl))⟩
      have HV:Hid (mo=false):=bC.out.trans (ty (by rintro(h|h|h);exact e0 h;exact e1 h;exact e2 h));have b0:(mk==[62])=false:=(by simpa using e0);have b1:(mk==[62,61])=false:=(by simpa using e1);have b2:(mk==[33,61])=false:=(by simpa using e2);clear e0 e1 e2;go_wp2_with fail
      go_meet
      exact⟨rfl,by rw[HV.out];exact aB⟩
     case rest =>
      obtain⟨rfl,aP⟩:=hcut;clear aB s0 s3 s4 s5 m3 m4 m5 m7 m8 m9 z3 z4 z5 z7 z8 z9;obtain⟨⟨s0,s3,s4,s5⟩,⟨m3,m4,m5,m7,m8,m9⟩,z3,z4,z5,z7,z8,z9⟩:=aP.out.cells;simp only at s0 s3 s4 s5 m3 m4 m5 m7 m8 m9
      go_wp2_with (first
       | (refine wpList_load_row ?aJ 263 (.tmp 5) ?ho (w.heap.size+1+1) ?hx 263 (rp ⟨kd,lf,rg,pl,tw,aM,nu,ls,eq,mo⟩) (0,0) _ aP.out.ep underlying263 rfl (Dl _) ?_
          case ho=>rfl
          case aJ=>rfl
          case hx=>rfl)
       | (refine wpList_store_row ?aJ 263 (.tmp 4) (.tmp 62) ?ho (w.heap.size+1) (rp ⟨kd,lf,rg,pl,tw,aM,nu,ls,eq,mo⟩) ?hx ?hy 263 (rp sG) aP.out.res (Dl _) rfl (by simp[rp,Value.oneCell']) ?_
          case ho=>rfl
          case aJ=>rfl
          case hx=>rfl
          case hy=>rfl))
      refine pe (v:=oM ⟨kd,lf,rg,pl,tw,aM,nu,ls,eq,mo⟩) (results_cell_row results139 _ _ (w.heap.size+1) 263 (rp ⟨kd,lf,rg,pl,tw,aM,nu,ls,eq,mo⟩) (0,0) _ rfl (l9 _ _ _ _ aP.out.res) underlying263 rfl (Dl _)) rfl ⟨by rw[HA.out],yK aP.out.af (by omega) _⟩
def Do(x:iD):Value:=.agg #[.int .i64 x.kind,.int .i64 x.num,.int .i64 x.place]
def U6(k n p:Int):Obj:=.cells #[.int .i64 k,.int .i64 n,.int .i64 p] 260 (0,0)
theorem Dp:(prog.info? 260).map (·.size)=some 3:=by kernel_rfl
theorem OB(h:w.heap[b]? = some (U6 k n p)):w.cell? ⟨b,0,none⟩=some (.int .i64 k)/\w.cell? ⟨b,1,none⟩=some (.int .i64 n)/\w.cell? ⟨b,2,none⟩=some (.int .i64 p)/\∀j,w.frozen? ⟨b,j,none⟩=false:=by
 unfold U6 at h;exact⟨(zC h 0).trans rfl,(zC h 1).trans rfl,(zC h 2).trans rfl,λj=>by simp[World.frozen?,h]⟩
theorem OC{x:Int}(h:w.heap[b]? = some (U6 k n p)):(w.setCell ⟨b,0,none⟩ (.int .i64 x)).heap[b]? = some (U6 x n p):=by
 unfold U6 at h ⊢;rw[p9 w b 0 _ _ _ h];simp
theorem OD{x:Int}(h:w.heap[b]? = some (U6 k n p)):(w.setCell ⟨b,1,none⟩ (.int .i64 x)).heap[b]? = some (U6 k x p):=by
 unfold U6 at h ⊢;rw[p9 w b 1 _ _ _ h];simp
theorem OE{x:Int}(h:w.heap[b]? = some (U6 k n p)):(w.setCell ⟨b,2,none⟩ (.int .i64 x)).heap[b]? = some (U6 k n x):=by
 unfold U6 at h ⊢;rw[p9 w b 2 _ _ _ h];simp
def EP(x:yT):Obj:=.cells #[.bool x.minus,.bool x.ak,.int .i64 x.num,.string ⟨x.name.toArray⟩] 235 (0,0)
structure VC(w W:World)(x:yT)(k n p:Int):Prop where
 src:W.heap[w.heap.size]? = some (EP x)
 res:W.heap[w.heap.size+1]? = some (U6 0 0 0)
 ep:W.heap[w.heap.size+1+1]? = some (U6 k n p)
 af:Below w.heap.size w W
theorem VC.below{W':World}(h:VC w W x k n p)(hb:Below W.heap.size W W'):VC w W' x k n p :=
 ⟨by rw[hb.block _ (zP h.src)];exact h.src,by rw[hb.block _ (zP h.res)];exact h.res,by rw[hb.block _ (zP h.ep)];exact h.ep,h.af.trans (hb.mono h.af.size)⟩
theorem VC.sq(h:VC w W x k n p)(y:Int):VC w (W.setCell ⟨w.heap.size+1+1,0,none⟩ (.int .i64 y)) x y n p :=
 ⟨by rw[l6 _ _ _ _ (show w.heap.size≠w.heap.size+1+1 by omega)];exact h.src,by rw[l6 _ _ _ _ (show w.heap.size+1≠w.heap.size+1+1 by omega)];exact h.res,OC h.ep,h.af.setCell (p:=⟨w.heap.size+1+1,0,none⟩) (show w.heap.size<=w.heap.size+1+1 by omega) _⟩
theorem VC.od(h:VC w W x k n p)(y:Int):VC w (W.setCell ⟨w.heap.size+1+1,1,none⟩ (.int .i64 y)) x k y p :=
 ⟨by rw[l6 _ _ _ _ (show w.heap.size≠w.heap.size+1+1 by omega)];exact h.src,by rw[l6 _ _ _ _ (show w.heap.size+1≠w.heap.size+1+1 by omega)];exact h.res,OD h.ep,h.af.setCell (p:=⟨w.heap.size+1+1,1,none⟩) (show w.heap.size<=w.heap.size+1+1 by omega) _⟩
theorem VC.EA(h:VC w W x k n p)(y:Int):VC w (W.setCell ⟨w.heap.size+1+1,2,none⟩ (.int .i64 y)) x k n y :=
 ⟨by rw[l6 _ _ _ _ (show w.heap.size≠w.heap.size+1+1 by omega)];exact h.src,by rw[l6 _ _ _ _ (show w.heap.size+1≠w.heap.size+1+1 by omega)];exact h.res,OE h.ep,h.af.setCell (p:=⟨w.heap.size+1+1,2,none⟩) (show w.heap.size<=w.heap.size+1+1 by omega) _⟩
theorem VC.cells(h:VC w W x k n p):(W.cell? ⟨w.heap.size,0,none⟩=some (.bool x.minus)/\W.cell? ⟨w.heap.size,1,none⟩=some (.bool x.ak)/\W.cell? ⟨w.heap.size,2,none⟩=some (.int .i64 x.num)/\W.cell? ⟨w.heap.size,3,none⟩=some (.string ⟨x.name.toArray⟩))/\(W.cell? ⟨w.heap.size+1+1,0,none⟩=some (.int .i64 k)/\W.cell? ⟨w.heap.size+1+1,1,none⟩=some (.int .i64 n)/\W.cell? ⟨w.heap.size+1+1,2,none⟩=some (.int .i64 p))/\(W.frozen? ⟨w.heap.size+1+1,0,none⟩=false/\W.frozen? ⟨w.heap.size+1+1,1,none⟩=false/\W.frozen? ⟨w.heap.size+1+1,2,none⟩=false):=by
 have h1:=h.src;unfold EP at h1;obtain⟨m0,m1,m2,mf⟩:=OB h.ep;exact⟨⟨(zC h1 0).trans rfl,(zC h1 1).trans rfl,(zC h1 2).trans rfl,(zC h1 3).trans rfl⟩,⟨m0,m1,m2⟩,mf 0,mf 1,mf 2⟩
theorem Dv(w:World)(b o:Nat)(I:List yA)(C:List (Bs × Nat))(h:Jg w b o I C)(x:yT)(hn:0<=x.num/\x.num<=9999) :
 Calls prog 138 #[.pointer (some ⟨b,o,none⟩),fX x] w λe w'=>e=.returned (Do (qJ (I.map yA.name) (C.map Prod.fst) x))/\Below w.heap.size w w':=by
 have HF:=zA (λw' (hb:Below w.heap.size w w')=>(h.below hb).find x.name);have HC:=zA (λw' (hb:Below w.heap.size w w')=>(h.below hb).ou x.name);have HA:Hid (qJ (I.map yA.name) (C.map Prod.fst) x=⟨rm (I.map yA.name) x,if x.minus then -Ak x else Ak x,wu (I.map yA.name) (C.map Prod.fst) x⟩):=rfl;unfold rm wu Ak at HA;generalize qJ (I.map yA.name) (C.map Prod.fst) x=bp at *;obtain⟨mi,st,nu,nm⟩:=x;simp only at HA HF HC hn;obtain⟨cF,bU⟩:=hn;clear h;generalize zQ (I.map yA.name) nm=f1 at *;generalize zQ (C.map Prod.fst) nm=f2 at *;simp only[fX];have aI:Hid (VC w (((w.alloc (EP ⟨mi,st,nu,nm⟩)).alloc (U6 0 0 0)).alloc (U6 1 nu 0)) ⟨mi,st,nu,nm⟩ 1 nu 0):=⟨yD (yD (zF _ _)),yD (uA _ _ _ (by simp)),uA _ _ _ (by simp),((fk (tg _) _).alloc (by simp) _).alloc (by simp;omega) _⟩;obtain⟨kk,bm⟩:∃kk,kk=if nm=[] then (1:Int) else if f1<0 then 3 else 2:=⟨_,rfl⟩;obtain⟨pp,bk⟩:∃pp,pp=if nm=[] then (0:Int) else if f1<0 then f2 else f1:=⟨_,rfl⟩;obtain⟨nn,a8⟩:∃nn,nn=if nm=[] then nu else if st then nu else 1:=⟨_,rfl⟩;rw[<-bm,<-bk,<-a8]at HA
 have cu:0<=nn/\nn<=9999:=by
  rw[a8];split
  ·exact⟨cF,bU⟩
  ·split
   ·exact⟨cF,bU⟩
   ·exact⟨by decide,by decide⟩
 have HK:=zA bm;have HP:=zA bk;have HN:=zA a8;clear bm bk a8
 go_enter func138,ntmps138
 go_upto_if 11 with fail
 go_cut [5] from 6 to 37 (λv5 wx=>v5=.pointer (some ⟨w.heap.size+1+1,0,none⟩)/\Hid (VC w wx ⟨mi,st,nu,nm⟩ kk nn pp))
 case first =>
  by_cases k0:nm=[]
  ·subst k0
   have bZ:Hid (kk=1):=HK.out.trans (tr rfl);have aK:Hid (pp=0):=HP.out.trans (tr rfl);have ar:Hid (nn=nu):=HN.out.trans (tr rfl);go_wp2_with fail
   go_meet
   exact⟨rfl,by rw[bZ.out,aK.out,ar.out];exact aI⟩
  ·have bZ:Hid (kk=if f1<0 then 3 else 2):=HK.out.trans (tj k0)
   have aK:Hid (pp=if f1<0 then f2 else f1):=HP.out.trans (tj k0);have ar:Hid (nn=if st then nu else 1):=HN.out.trans (tj k0);have b0:List.isEmpty nm=false:=(by cases nm with|nil=>exact x' rfl k0|cons _ _=>rfl);have b1:(!List.isEmpty nm)=true:=(by rw[b0];rfl);clear k0 HK HP HN
   try rw[b1]
   have aH:Hid (VC w (((w.alloc (EP ⟨mi,st,nu,nm⟩)).alloc (U6 0 0 0)).alloc (U6 2 nu 0)) ⟨mi,st,nu,nm⟩ 2 nu 0):=⟨yD (yD (zF _ _)),yD (uA _ _ _ (by simp)),uA _ _ _ (by simp),((fk (tg _) _).alloc (by simp) _).alloc (by simp;omega) _⟩;go_wp2_with fail
   refine(HF.out _ aH.out.af).mono ?_;rintro e w4 ⟨rfl,aA⟩;have aB:=zA (aH.out.below aA);obtain⟨⟨ag,aa,aZ,aX⟩,⟨bS,aw,bR⟩,f40,f41,f42⟩:=aB.out.cells;simp only at ag aa aZ aX;have aP:=zA (aB.out.EA f1);clear aA aH aI
   go_upto_if 20 with fail
   go_cut [5] from 6 to 37 (λv5 wx=>v5=.pointer (some ⟨w.heap.size+1+1,0,none⟩)/\Hid (VC w wx ⟨mi,st,nu,nm⟩ kk nu pp))
   case first =>
    by_cases k1:f1<0
    ·have bz:Hid (kk=3):=bZ.out.trans (tr k1)
     have br:Hid (pp=f2):=aK.out.trans (tr k1);have bA:=zA (aP.out.sq 3)
     try rw[tz k1]
     go_wp2_with fail
     refine(HC.out _ bA.out.af).mono ?_;rintro e w6 ⟨rfl,cL⟩;have ao:=zA (bA.out.below cL);obtain⟨⟨ck,cj,cg,cf⟩,⟨dQ,dP,dO⟩,f60,f61,f62⟩:=ao.out.cells;simp only at ck cj cg cf;clear cL;go_wp2_with fail
     go_meet
     exact⟨rfl,by rw[bz.out,br.out];exact zA (ao.out.EA f2)⟩
    ·have bz:Hid (kk=2):=bZ.out.trans (tj k1)
     have br:Hid (pp=f1):=aK.out.trans (tj k1)
     try rw[ty k1]
     go_wp2_with fail
     go_meet
     exact⟨rfl,by rw[bz.out,br.out];exact aP⟩
   case rest =>
    obtain⟨rfl,bA⟩:=hcut;clear aP aB ag aa aZ aX bS aw bR f40 f41 f42;obtain⟨⟨ag,aa,aZ,aX⟩,⟨bS,aw,bR⟩,f40,f41,f42⟩:=bA.out.cells;simp only at ag aa aZ aX;cases st
    ·have aq:Hid (nn=1):=ar
     go_wp2_with fail
     go_meet
     exact⟨rfl,by rw[aq.out];exact zA (bA.out.od 1)⟩
    ·have aq:Hid (nn=nu):=ar
     go_wp2_with fail
     go_meet
     exact⟨rfl,by rw[aq.out];exact bA⟩
 case rest =>
  obtain⟨rfl,aH⟩:=hcut;clear aI HK HP HN HF HC;obtain⟨⟨ag,aa,aZ,aX⟩,⟨bS,aw,bR⟩,f40,f41,f42⟩:=aH.out.cells;simp only at ag aa aZ aX;obtain⟨n2,bl⟩:∃n2,n2=if mi then -nn else nn:=⟨_,rfl⟩;rw[<-bl]at HA;have ar:=zA bl;clear bl
  go_upto_if 32 with fail
  go_cut [5] from 6 to 37 (λv5 wx=>v5=.pointer (some ⟨w.heap.size+1+1,0,none⟩)/\Hid (VC w wx ⟨mi,st,nu,nm⟩ kk n2 pp))
  case first =>
   cases mi
   ·have aq:Hid (n2=nn):=ar
    go_wp2_with fail
    go_meet
    exact⟨rfl,by rw[aq.out];exact aH⟩
   ·have aq:Hid (n2 = -nn):=ar
    obtain⟨dY,dX⟩:=cu;go_wp2_with fail
    go_meet
    exact⟨rfl,by rw[aq.out];exact zA (aH.out.od (-nn))⟩
  case rest =>
   obtain⟨rfl,ao⟩:=hcut;clear aH ag aa aZ aX bS aw bR f40 f41 f42
   go_wp2_with (first
    | (refine wpList_load_row ?aJ 260 (.tmp 5) ?ho (w.heap.size+1+1) ?hx 260 #[.int .i64 kk,.int .i64 n2,.int .i64 pp] (0,0) _ ao.out.ep underlying260 rfl Dp ?_
       case ho=>rfl
       case aJ=>rfl
       case hx=>rfl)
    | (refine wpList_store_row ?aJ 260 (.tmp 4) (.tmp 37) ?ho (w.heap.size+1) #[.int .i64 kk,.int .i64 n2,.int .i64 pp] ?hx ?hy 260 #[.int .i64 0,.int .i64 0,.int .i64 0] ao.out.res Dp rfl (by simp[Value.oneCell']) ?_
       case ho=>rfl
       case aJ=>rfl
       case hx=>rfl
       case hy=>rfl))
   refine pe (v:=Do ⟨kk,n2,pp⟩) (results_cell_row results138 _ _ (w.heap.size+1) 260 #[.int .i64 kk,.int .i64 n2,.int .i64 pp] (0,0) _ rfl (l9 _ _ _ _ ao.out.res) underlying260 rfl Dp) rfl ⟨by rw[HA.out],yK ao.out.af (by omega) _⟩
def yd(ei:Bs)(cc:Int)(sv gv:Value)(ro:Int):Array Value := #[.string ⟨ei.toArray⟩,.int .i64 cc,sv,gv,.int .i64 ro]
def rP(ei:Bs)(cc:Int)(sv gv:Value)(ro:Int):Obj:=.cells (yd ei cc sv gv ro) 162 (0,0)
theorem aD(h:w.heap[b]? = some (rP ei cc sv gv ro)):w.cell? ⟨b,2,none⟩=some sv/\w.cell? ⟨b,3,none⟩=some gv/\∀j,w.frozen? ⟨b,j,none⟩=false:=by
 unfold rP yd at h;exact⟨(zC h 2).trans rfl,(zC h 3).trans rfl,λj=>by simp[World.frozen?,h]⟩
theorem Og(h:w.heap[b]? = some (rP ei cc sv gv ro)):(w.setCell ⟨b,2,none⟩ v).heap[b]? = some (rP ei cc v gv ro):=by
 unfold rP yd at h ⊢;rw[p9 w b 2 _ _ _ h];simp
theorem Oh(h:w.heap[b]? = some (rP ei cc sv gv ro)):(w.setCell ⟨b,3,none⟩ v).heap[b]? = some (rP ei cc sv v ro):=by
 unfold rP yd at h ⊢;rw[p9 w b 3 _ _ _ h];simp
def Et(w:World)(b:Nat)(v0 v1 v2 v3 v4:Value):World:=((((w.setCell ⟨b,0,none⟩ v0).setCell ⟨b,1,none⟩ v1).setCell ⟨b,2,none⟩ v2).setCell ⟨b,3,none⟩ v3).setCell ⟨b,4,none⟩ v4
theorem FC(h:w.heap[b]? = some (rP ei cc sv gv ro))(aC:Bs)(aU cD:Int)(av bV:Value):(Et w b (.string ⟨aC.toArray⟩) (.int .i64 aU) av bV (.int .i64 cD)).heap[b]? = some (rP aC aU av bV cD):=by
 unfold Et rP yd at *;have h1:(w.setCell ⟨b,0,none⟩ (.string ⟨aC.toArray⟩)).heap[b]? = some (.cells #[.string ⟨aC.toArray⟩,.int .i64 cc,sv,gv,.int .i64 ro] 162 (0,0)):=by rw[p9 w b 0 _ _ _ h];simp
 have h2:((w.setCell ⟨b,0,none⟩ (.string ⟨aC.toArray⟩)).setCell ⟨b,1,none⟩ (.int .i64 aU)).heap[b]? = some (.cells #[.string ⟨aC.toArray⟩,.int .i64 aU,sv,gv,.int .i64 ro] 162 (0,0)):=by rw[p9 _ b 1 _ _ _ h1];simp
 have h3:(((w.setCell ⟨b,0,none⟩ (.string ⟨aC.toArray⟩)).setCell ⟨b,1,none⟩ (.int .i64 aU)).setCell ⟨b,2,none⟩ av).heap[b]? = some (.cells #[.string ⟨aC.toArray⟩,.int .i64 aU,av,gv,.int .i64 ro] 162 (0,0)):=by rw[p9 _ b 2 _ _ _ h2];simp
 have h4:((((w.setCell ⟨b,0,none⟩ (.string ⟨aC.toArray⟩)).setCell ⟨b,1,none⟩ (.int .i64 aU)).setCell ⟨b,2,none⟩ av).setCell ⟨b,3,none⟩ bV).heap[b]? = some (.cells #[.string ⟨aC.toArray⟩,.int .i64 aU,av,bV,.int .i64 ro] 162 (0,0)):=by rw[p9 _ b 3 _ _ _ h3];simp
 rw[p9 _ b 4 _ _ _ h4];simp
theorem QE{a:World}(h:Below B a w)(hb:B<=b)(v0 v1 v2 v3 v4:Value):Below B a (Et w b v0 v1 v2 v3 v4) :=
 ((((h.setCell (p:=⟨b,0,none⟩) hb _).setCell (p:=⟨b,1,none⟩) hb _).setCell (p:=⟨b,2,none⟩) hb _).setCell (p:=⟨b,3,none⟩) hb _).setCell (p:=⟨b,4,none⟩) hb _
theorem I0(h:w.heap[b]? = some (rP ei cc sv gv ro)):(w.cell? ⟨b,0,none⟩=some (.string ⟨ei.toArray⟩)/\w.cell? ⟨b,1,none⟩=some (.int .i64 cc)/\w.cell? ⟨b,2,none⟩=some sv/\w.cell? ⟨b,3,none⟩=some gv/\w.cell? ⟨b,4,none⟩=some (.int .i64 ro))/\(w.frozen? ⟨b,0,none⟩=false/\w.frozen? ⟨b,1,none⟩=false/\w.frozen? ⟨b,2,none⟩=false/\w.frozen? ⟨b,3,none⟩=false/\w.frozen? ⟨b,4,none⟩=false):=by
 unfold rP yd at h;have hf:∀j,w.frozen? ⟨b,j,none⟩=false:=λj=>by simp[World.frozen?,h]
 exact⟨⟨(zC h 0).trans rfl,(zC h 1).trans rfl,(zC h 2).trans rfl,(zC h 3).trans rfl,(zC h 4).trans rfl⟩,hf 0,hf 1,hf 2,hf 3,hf 4⟩
theorem C7(ei:Bs)(cc:Int)(sv gv:Value)(ro:Int):(prog.info? 162).map (·.size)=some (yd ei cc sv gv ro).size:=by show _=some 5;kernel_rfl
theorem ug:(prog.info? 260).map (λi=>(i.zero,i.size,i.bytes))=some (some (.agg #[.int .i64 0,.int .i64 0,.int .i64 0]),3,24):=by kernel_rfl
theorem uh:(prog.info? 263).map (λi=>(i.zero,i.size,i.bytes))=some (some (.agg #[.int .i64 0,.int .i64 0,.int .i64 0,.int .i64 0,.bool false,.int .i64 0,.int .i64 0,.bool false,.bool false,.bool false]),10,64):=by kernel_rfl
theorem xX.keeps{w':World}{a:Option Addr}{R:Nat}{cs:Array Value}{t':TypeId}{fz:Nat × Nat}(h:xX w t a xs)(hk:zB w.heap.size R w w')(hR:w.heap[R]? = some (.cells cs t' fz))(cd:t≠t'):xX w' t a xs :=
 h.keep λg cs' dZ hg=>hk.block g (zP hg) (λe=>by
  subst e;rw[hR]at hg;simp only[bi,Obj.cells.injEq]at hg;exact cd hg.2.1.symm)
theorem Q6{w2:World}(hg:w.grownBy w2 v.ownBlock){x:Obj}(h:w.heap[b]? = some x)(hr:∀k,v.ownBlock=some k->B<=k)(hB:b<B):w2.heap[b]? = some x:=by
 rw[hg.block b (zP h) (λe=>by have:=hr b e.symm;omega)];exact h
theorem dJ{j k n:Nat}{u:Value}(h:w.ownsRow B t k v n xs)(hb:b<B):(w.setCell ⟨b,j,none⟩ u).ownsRow B t k v n xs :=
 uK h ((zB.refl w.heap.size b w).setCell (p:=⟨b,j,none⟩) (.inr rfl) u) hb
theorem eO{α β:Type}(f:α->List Value)(g:β->α)(L:List β)(i:Nat)(d:β)(h:i<L.length):((L.take (i+1)).map g).flatMap f=((L.take i).map g).flatMap f++f (g (L.getD i d)):=by
 have:L.take (i+1)=L.take i++[L.getD i d]:=by rw[dc];simp[List.getD,h]
 rw[this];simp
def Fn(r:xN)(w w':World)(e:Ending):Prop:=∃y:MX,y.1=r/\e=.returned (qS y)/\kE w' y/\Below w.heap.size w w'
theorem Du(w:World)(mb o:Nat)(I:List yA)(C:List (Bs × Nat))(h:Jg w mb o I C)(x:zE)(sa na:Option Addr)(sc nc:Nat)(hS:jd w sa x.sum)(hN:zFY w na x.nd)(hg:bG x)(a8:x.nd.length<=10000) :
 Calls prog 93 #[.pointer (some ⟨mb,o,none⟩),uG (.slice sa x.sum.length sc) (.slice na x.nd.length nc) x] w λe w'=>Fn (qT (I.map yA.name) (C.map Prod.fst) x) w w' e:=by
 obtain⟨i0,ai,hz0,hz1,cr⟩:=du ug;obtain⟨j0,cz,cy,cx,cw⟩:=du uh;have hs1:=hS.aj;have bU:=hN.aj;have ct:=hg.AU;have HS:=zA hS;have HN:=zA hN;have dm:=zA h;have cU:=zA hg.sums;have bt:=zA (λw'=>FH w' x.name);have ba:=zA (λw' (hb:Below w.heap.size w w')=>(h.below hb).ou x.ae);have dD:=zA (λw' (hb:Below w.heap.size w w') y hy=>Dv w' mb o I C (h.below hb) y hy);have dE:=zA (λw' (hb:Below w.heap.size w w') y=>Dw w' mb o I C (h.below hb) y);have HA:Hid (qT (I.map yA.name) (C.map Prod.fst) x=⟨x.name,zQ (C.map Prod.fst) x.ae,x.sum.map (qJ (I.map yA.name) (C.map Prod.fst)),x.nd.map (lF (I.map yA.name) (C.map Prod.fst)),x.root⟩):=rfl;generalize qT (I.map yA.name) (C.map Prod.fst) x=bp at *;generalize qJ (I.map yA.name) (C.map Prod.fst)=fp at *;generalize lF (I.map yA.name) (C.map Prod.fst)=fn at *;obtain⟨kd,n1,lo,hi',cc,S,N,ro,te,de,lw⟩:=x;simp only at hs1 bU ct a8 HS HN cU bt ba HA;generalize zQ (C.map Prod.fst) cc=fc at *;clear h hS hN hg;simp only[uG];obtain⟨w0,ay⟩:∃w0,w0=(w.alloc (.cells #[.int .i64 kd,.string ⟨n1.toArray⟩,.int .i64 lo,.int .i64 hi',.string ⟨cc.toArray⟩,.slice sa S.length sc,.slice na N.length nc,.int .i64 ro,.int .i64 te,.int .i64 de,.string ⟨lw.toArray⟩] 184)).alloc (.cells #[.string ⟨#[]⟩,.int .i64 0,.slice none 0 0,.slice none 0 0,.int .i64 0] 162):=⟨_,rfl⟩;have dI:Hid (Below w.heap.size w w0):=by rw[ay];exact(fk (tg _) _).alloc (by simp) _
 have cM:w0.heap[w.heap.size]? = some (.cells #[.int .i64 kd,.string ⟨n1.toArray⟩,.int .i64 lo,.int .i64 hi',.string ⟨cc.toArray⟩,.slice sa S.length sc,.slice na N.length nc,.int .i64 ro,.int .i64 te,.int .i64 de,.string ⟨lw.toArray⟩] 184 (0,0)):=by rw[ay];exact yD (zF _ _)
 have dC:Hid (w0.heap[w.heap.size+1]? = some (rP [] 0 (.slice none 0 0) (.slice none 0 0) 0)):=by rw[ay];exact uA _ _ _ (by simp)
 have hs0:w0.heap.size=w.heap.size+2:=by rw[ay];simp
 have bE:Hid (∀w',Below w0.heap.size w0 w'->w'.cell? ⟨w.heap.size,1,none⟩=some (.string ⟨n1.toArray⟩)/\w'.cell? ⟨w.heap.size,4,none⟩=some (.string ⟨cc.toArray⟩)/\w'.cell? ⟨w.heap.size,5,none⟩=some (.slice sa S.length sc)/\w'.cell? ⟨w.heap.size,6,none⟩=some (.slice na N.length nc)/\w'.cell? ⟨w.heap.size,7,none⟩=some (.int .i64 ro)):=λw' hb=>by
  have h1:w'.heap[w.heap.size]? = _:=(hb.block _ (by omega)).trans cM;exact⟨(zC h1 1).trans rfl,(zC h1 4).trans rfl,(zC h1 5).trans rfl,(zC h1 6).trans rfl,(zC h1 7).trans rfl⟩
 have cT:=zA ay;have cA:Hid (∀w',Below w0.heap.size w0 w'->Below w.heap.size w w'):=λw' hb=>dI.out.trans (hb.mono (by omega));have dV:w.heap.size+2<=w0.heap.size:=by omega
 have cS:Hid (∀(w4:World),Below (w0.drew.alloc (.cells #[.string ⟨#[]⟩,.int .i64 0,.slice none 0 0,.slice none 0 0,.int .i64 0] 162)).heap.size (w0.drew.alloc (.cells #[.string ⟨#[]⟩,.int .i64 0,.slice none 0 0,.slice none 0 0,.int .i64 0] 162)) w4->Below w0.heap.size w0 w4/\w4.heap[w0.heap.size]? = some (rP [] 0 (.slice none 0 0) (.slice none 0 0) 0)):=λw4 aA=>by
  refine⟨((md (tl _ _)).alloc (tg _) _).trans (aA.mono (p7 (zY w0.drew _))),?_⟩;exact(aA.block w0.heap.size (zY w0.drew _)).trans (zF w0.drew _)
 have cR:Hid (∀(w4 w5:World),Below w4.heap.size w4 w5->w4.heap[w0.heap.size]? = some (rP [] 0 (.slice none 0 0) (.slice none 0 0) 0)->w5.heap[w0.heap.size]? = some (rP [] 0 (.slice none 0 0) (.slice none 0 0) 0)):=λw4 w5 hb h4=>by rw[hb.block _ (zP h4)];exact h4
 have cQ:Hid (∀(w4:World),Below w0.heap.size w0 w4->Below w0.heap.size w0 (w4.alloc (.cells #[.string ⟨#[]⟩,.int .i64 0,.slice none 0 0,.slice none 0 0,.int .i64 0] 162))/\(w4.alloc (.cells #[.string ⟨#[]⟩,.int .i64 0,.slice none 0 0,.slice none 0 0,.int .i64 0] 162)).heap[w4.heap.size]? = some (rP [] 0 (.slice none 0 0) (.slice none 0 0) 0)):=λw4 hb=>⟨hb.alloc hb.size _,zF _ _⟩;have cP:Hid (∀(w4 w5:World),Below (w4.alloc (.cells #[.string ⟨#[]⟩,.int .i64 0,.slice none 0 0,.slice none 0 0,.int .i64 0] 162)).heap.size (w4.alloc (.cells #[.string ⟨#[]⟩,.int .i64 0,.slice none 0 0,.slice none 0 0,.int .i64 0] 162)) w5->(w4.alloc (.cells #[.string ⟨#[]⟩,.int .i64 0,.slice none 0 0,.slice none 0 0,.int .i64 0] 162)).heap[w4.heap.size]? = some (rP [] 0 (.slice none 0 0) (.slice none 0 0) 0)->w5.heap[w4.heap.size]? = some (rP [] 0 (.slice none 0 0) (.slice none 0 0) 0)):=λw4 w5 hb h4=>by rw[hb.block _ (zP h4)];exact h4
 have dR:w.heap.size<w0.heap.size:=by omega
 have ns0:w0.heap.size≠w.heap.size:=by omega
 clear cM ay hs0
 go_enter func93,ntmps93
 go_upto_region 1 with fail
 rw[<-cT.out];clear cT;obtain⟨a1,a4,a5,a6,a7⟩:=bE.out w0 (tl _ _)
 go_cut [5] from 12 to 58 (λv5 wx=>∃rb,v5=.pointer (some ⟨rb,0,none⟩)/\Hid (wx.heap[rb]? = some (rP n1 fc (.slice none 0 0) (.slice none 0 0) ro))/\Hid (Below w0.heap.size w0 wx)/\w0.heap.size<=rb)
 case first =>
  go_region_held3 (λw'=>w'.cell? ⟨w.heap.size,1,none⟩=some (.string ⟨n1.toArray⟩)/\w'.cell? ⟨w.heap.size,4,none⟩=some (.string ⟨cc.toArray⟩)/\w'.cell? ⟨w.heap.size,7,none⟩=some (.int .i64 ro)) (go_keep) (first
   | (go_at_call 92;refine(bt.out _).mono ?_;rintro e w4 ⟨rfl,aA⟩;first
    | (have aO:Below w0.heap.size w0 w4:=(md (tl _ _)).trans aA;have bF:=aO.size;have cp:w.heap.size<w4.heap.size:=(by omega);have cm:w4.heap.size≠w.heap.size:=(by omega);obtain⟨b1,b4,b5,b6,b7⟩:=bE.out w4 aO)
    | (obtain⟨aO,dA⟩:=cS.out w4 aA;have bF:=aO.size;have cp:w.heap.size<w4.heap.size:=(by omega);have cm:w4.heap.size≠w.heap.size:=(by omega);obtain⟨b1,b4,b5,b6,b7⟩:=bE.out w4 aO))
   | (go_at_call 137;first
    | (refine(ba.out w4 (cA.out _ aO)).mono ?_;rintro e w5 ⟨rfl,bI⟩;have aT:Below w0.heap.size w0 w5:=aO.trans (bI.mono aO.size);have bj:=aT.size;have cn:w.heap.size<w5.heap.size:=(by omega);have cl:w5.heap.size≠w.heap.size:=(by omega);obtain⟨d1,d4,d5,d6,d7⟩:=bE.out w5 aT;(try (have cO:=cR.out w4 w5 bI dA;obtain⟨⟨o0,o1,o2,o3,o4⟩,p0,p1,p2,p3,p4⟩:=I0 cO)))
    | (obtain⟨bo,c9⟩:=cQ.out w4 aO;refine(ba.out _ (cA.out _ bo)).mono ?_;rintro e w5 ⟨rfl,bI⟩;have aT:Below w0.heap.size w0 w5:=bo.trans (bI.mono bo.size);have bj:=aT.size;have cn:w.heap.size<w5.heap.size:=(by omega);have cl:w5.heap.size≠w.heap.size:=(by omega);obtain⟨d1,d4,d5,d6,d7⟩:=bE.out w5 aT;have cN:=cP.out w4 w5 bI c9;obtain⟨⟨o0,o1,o2,o3,o4⟩,p0,p1,p2,p3,p4⟩:=I0 cN)))
  all_goals
   go_wp2_with fail
   go_meet
   first
    | exact⟨w0.heap.size,rfl,zA (FC cO n1 fc ro (.slice none 0 0) (.slice none 0 0)),zA (QE aT (tg _) _ _ _ _ _),tg _⟩
    | exact⟨w4.heap.size,rfl,zA (FC cN n1 fc ro (.slice none 0 0) (.slice none 0 0)),zA (QE aT bF _ _ _ _ _),bF⟩
    | exact⟨w5.heap.size,rfl,zA (zF w5 _),zA (aT.alloc bj _),bj⟩
 case rest =>
  obtain⟨rb,rfl,cV,bb,dW⟩:=hcut;clear a1 a4 a5 a6 a7 bt ba cS cR cQ cP;obtain⟨-,-,a5,a6,-⟩:=bE.out wc bb.out;have hsc:=bb.out.size;have cE:=zP cV.out;have cB:=zA (cA.out wc bb.out);go_wp2_with fail
  go_loopw [26] (λiv wr=>∃(i:Nat) (sv:Value),i<=S.length/\iv=.int .i64 i/\Hid (wr.heap[rb]? = some (rP n1 fc sv (.slice none 0 0) ro))/\Hid (wr.ownsRow wc.heap.size 260 3 sv i (((S.take i).map fp).flatMap cI))/\Hid (zB wc.heap.size rb wc wr)) (λiv _=>S.length-(intOf iv).toNat)
  case atStart=>exact⟨0,_,p8,rfl,cV,zA (Zp _ _ _ _),zA (zB.refl _ _ _)⟩
  case round =>
   obtain⟨i,sv,hi,rfl,HR,HO,HK⟩:=hrel;have cb:=HK.out.size;have bP:Hid (Below w.heap.size w wr):=cB.out.trans (HK.out.below (by omega) (by omega));by_cases bc:i<S.length
   ·obtain⟨g,yB,rfl,hp⟩:=(HS.out.below bP.out (tg _)).blk (by omega)
    obtain⟨d0,d1,d2,d3⟩:=hp.cells bc;have c6:=hp.lt;obtain⟨r2,-,rf⟩:=aD HR.out;have bT:=zP HR.out;have ah:=zA (eO cI fp S i xz bc);rw[show S.getD i xz=aY S i from rfl]at ah;have bH:=cU.out i bc;have bM:=zA (λw' hb=>dD.out w' hb (aY S i) bH);have mg:wr.heap.size≠g:=by omega
    have mr:wr.heap.size≠rb:=by omega
    have au:Hid (∀(oo:Obj) (w4:World),Below (wr.alloc oo).heap.size (wr.alloc oo) w4->w4.ownsRow wc.heap.size 260 3 sv i (((S.take i).map fp).flatMap cI)/\w4.heap[rb]? = some (rP n1 fc sv (.slice none 0 0) ro)/\zB wc.heap.size rb wc w4/\wr.heap.size<w4.heap.size/\w4.cell? ⟨rb,2,none⟩=some sv/\rb<w4.heap.size/\w4.heap.size≠rb/\w4.heap.size+1≠rb):=λoo w4 aA=>by
     have h1:Below wr.heap.size wr w4:=(fk (tg _) _).trans (aA.mono (p7 (zY _ _)));have h2:w4.heap[rb]? = some (rP n1 fc sv (.slice none 0 0) ro):=(by rw[h1.block _ bT];exact HR.out);have h3:=zP h2;exact⟨jU HO.out h1,h2,HK.out.trans (zB.az (h1.mono cb)),tq (zY _ _) aA.size,(aD h2).1,h3,by omega,by omega⟩
    have cC:Hid (∀oo,Below w.heap.size w (wr.alloc oo)):=λoo=>bP.out.alloc bP.out.size oo;clear hp rf bH;generalize aY S i=y at *;generalize fp y=fy at *;obtain⟨mi,st,nu,nm⟩:=y;obtain⟨y0,y1,y2⟩:=fy;simp only[fX,Do]at bM;simp only[cI]at ah;simp only at d0 d1 d2 d3;go_wp2_with fail
    refine(bM.out _ (cC.out _)).mono ?_;rintro e w4 ⟨rfl,aA⟩;obtain⟨aN,bn,bK,bF,dk,l4,m4,aw⟩:=au.out _ w4 aA;clear aA
    go_wp2_with (at_builtin;refine wpList_append_own _ rfl _ _ 159 rfl wc.heap.size 260 i0 _ 3 24 underlying159 ai hz0 hz1 cr rfl (by decide) _ _ _ rfl ((aN.alloc _).alloc _) ⟨w4.heap.size+1,0,none⟩ 1 1 [.int .i64 y0,.int .i64 y1,.int .i64 y2] rfl rfl ?c1 ?c2 ?c3 ?c4 ?c5 ?_)
    case c1=>exact tW _ _ _ _ rfl (by simp)
    case c2=>intro u hu;simp at hu;rcases hu with rfl|rfl|rfl <;> rfl
    case c3=>unfold maxLen;omega
    case c4=>omega
    case c5=>simp;omega
    intro v' w5 aV aW _;obtain⟨aG,aF,rfl⟩:=zO aV;have bJ:w5.heap[rb]? = some (rP n1 fc sv (.slice none 0 0) ro):=Q6 aW (yD (yD bn)) (zS aN) cE;obtain⟨dh,-,f5⟩:=aD bJ;have f52:=f5 2;have bu:Hid ((w5.setCell ⟨rb,2,none⟩ (.slice aG (i+1) aF)).ownsRow wc.heap.size 260 3 (.slice aG (i+1) aF) (i+1) (((S.take (i+1)).map fp).flatMap cI)):=by unfold Hid;rw[ah.out,List.map_take];exact dJ aV cE
    have bx:Hid (zB wc.heap.size rb wc (w5.setCell ⟨rb,2,none⟩ (.slice aG (i+1) aF))):=(((bK.alloc (by omega) _).alloc (by simp;omega) _).grown aW (by simp;omega) (zS aN)).setCell (p:=⟨rb,2,none⟩) (.inr rfl) _;have bq:Hid ((w5.setCell ⟨rb,2,none⟩ (.slice aG (i+1) aF)).heap[rb]? = some (rP n1 fc (.slice aG (i+1) aF) (.slice none 0 0) ro)):=Og bJ;clear aV aW f5 aN bK;go_wp2_with fail
    go_roundw
    case rel=>exact⟨i+1,.slice aG (i+1) aF,by omega,by go_num,bq,bu,bx⟩
    case measure=>simp[intOf];omega
   ·obtain rfl:i=S.length:=by omega
    have ii:¬(S.length:Int)<(S.length:Int):=(by omega);rw[co]at HO;obtain⟨pa,pc,rfl,cJ⟩:=uT HO.out;have dG:=zA cJ;have b6:wr.cell? ⟨w.heap.size,6,none⟩=some (.slice na N.length nc):=(by rw[HK.out.cell (p:=⟨w.heap.size,6,none⟩) (show w.heap.size<wc.heap.size by omega) (show w.heap.size≠rb by omega)];exact a6);have dB:Hid (wr.heap[w.heap.size+1]? = some (rP [] 0 (.slice none 0 0) (.slice none 0 0) 0)):=(by unfold Hid;rw[HK.out.block _ (show w.heap.size+1<wc.heap.size by omega) (show w.heap.size+1≠rb by omega),bb.out.block _ (by omega)];exact dC.out);have bT:=zP HR.out;clear cJ HO a5 a6;generalize bg:wr=aL at *;clear bg;go_wp2_with fail
    go_loopw [44] (λiv wr=>∃(i:Nat) (gv:Value),i<=N.length/\iv=.int .i64 i/\Hid (wr.heap[rb]? = some (rP n1 fc (.slice pa S.length pc) gv ro))/\Hid (wr.ownsRow aL.heap.size 263 10 gv i (((N.take i).map fn).flatMap kK))/\Hid (zB aL.heap.size rb aL wr)) (λiv _=>N.length-(intOf iv).toNat)
    case atStart=>exact⟨0,_,p8,rfl,HR,zA (Zp _ _ _ _),zA (zB.refl _ _ _)⟩
    case round =>
     obtain⟨i,gv,hi,rfl,bW,bY,bO⟩:=hrel;have bh:=bO.out.size;have aS:Hid (Below w.heap.size w wr):=bP.out.trans (bO.out.below (by omega) (by omega));by_cases cH:i<N.length
     ·obtain⟨g,yB,rfl,hp⟩:=(HN.out.below aS.out (tg _)).blk (by omega)
      obtain⟨d0,d1,d2,d3,d4,d5,d6⟩:=hp.cells cH;have c6:=hp.lt;obtain⟨-,r3,rf⟩:=aD bW.out;have cq:=zP bW.out;have ah:=zA (eO kK fn N i nz cH);rw[show N.getD i nz=vY N i from rfl]at ah;have bN:=zA (λw' hb=>dE.out w' hb (vY N i));have mg:wr.heap.size≠g:=by omega
      have mr:wr.heap.size≠rb:=by omega
      have au:Hid (∀(oo:Obj) (w4:World),Below (wr.alloc oo).heap.size (wr.alloc oo) w4->w4.ownsRow aL.heap.size 263 10 gv i (((N.take i).map fn).flatMap kK)/\w4.heap[rb]? = some (rP n1 fc (.slice pa S.length pc) gv ro)/\zB aL.heap.size rb aL w4/\wr.heap.size<w4.heap.size/\w4.cell? ⟨rb,3,none⟩=some gv/\rb<w4.heap.size/\w4.heap.size≠rb/\w4.heap.size+1≠rb):=λoo w4 aA=>by
       have h1:Below wr.heap.size wr w4:=(fk (tg _) _).trans (aA.mono (p7 (zY _ _)));have h2:w4.heap[rb]? = some (rP n1 fc (.slice pa S.length pc) gv ro):=(by rw[h1.block _ cq];exact bW.out);have h3:=zP h2;exact⟨jU bY.out h1,h2,bO.out.trans (zB.az (h1.mono bh)),tq (zY _ _) aA.size,(aD h2).2.1,h3,by omega,by omega⟩
      have cC:Hid (∀oo,Below w.heap.size w (wr.alloc oo)):=λoo=>aS.out.alloc aS.out.size oo;clear hp rf;generalize vY N i=y at *;generalize fn y=fy at *;obtain⟨dT,dS,dK,dN,mk',dL,dM⟩:=y;obtain⟨y0,y1,y2,y3,y4,y5,y6,y7,y8,y9⟩:=fy;simp only[kI,oM]at bN;simp only[kK]at ah;simp only at d0 d1 d2 d3 d4 d5 d6;go_wp2_with fail
      refine(bN.out _ (cC.out _)).mono ?_;rintro e w4 ⟨rfl,aA⟩;obtain⟨aN,bn,bK,bF,di,l4,m4,aw⟩:=au.out _ w4 aA;clear aA
      go_wp2_with (at_builtin;refine wpList_append_own _ rfl _ _ 160 rfl aL.heap.size 263 j0 _ 10 64 underlying160 cz cy cx cw rfl (by decide) _ _ _ rfl ((aN.alloc _).alloc _) ⟨w4.heap.size+1,0,none⟩ 1 1 [.int .i64 y0,.int .i64 y1,.int .i64 y2,.int .i64 y3,.bool y4,.int .i64 y5,.int .i64 y6,.bool y7,.bool y8,.bool y9] rfl rfl ?c1 ?c2 ?c3 ?c4 ?c5 ?_)
      case c1=>exact tW _ _ _ _ rfl (by simp)
      case c2=>intro u hu;simp at hu;rcases hu with rfl|rfl|rfl|rfl|rfl|rfl|rfl|rfl|rfl|rfl <;> rfl
      case c3=>unfold maxLen;omega
      case c4=>omega
      case c5=>simp;omega
      intro v' w5 aV aW _;obtain⟨aG,aF,rfl⟩:=zO aV;have bJ:w5.heap[rb]? = some (rP n1 fc (.slice pa S.length pc) gv ro):=Q6 aW (yD (yD bn)) (zS aN) bT;obtain⟨-,df,f5⟩:=aD bJ;have f53:=f5 3;have bu:Hid ((w5.setCell ⟨rb,3,none⟩ (.slice aG (i+1) aF)).ownsRow aL.heap.size 263 10 (.slice aG (i+1) aF) (i+1) (((N.take (i+1)).map fn).flatMap kK)):=by unfold Hid;rw[ah.out,List.map_take];exact dJ aV bT
      have bx:Hid (zB aL.heap.size rb aL (w5.setCell ⟨rb,3,none⟩ (.slice aG (i+1) aF))):=(((bK.alloc (by omega) _).alloc (by simp;omega) _).grown aW (by simp;omega) (zS aN)).setCell (p:=⟨rb,3,none⟩) (.inr rfl) _;have bq:Hid ((w5.setCell ⟨rb,3,none⟩ (.slice aG (i+1) aF)).heap[rb]? = some (rP n1 fc (.slice pa S.length pc) (.slice aG (i+1) aF) ro)):=Oh bJ;clear aV aW f5 aN bK;go_wp2_with fail
      go_roundw
      case rel=>exact⟨i+1,.slice aG (i+1) aF,by omega,by go_num,bq,bu,bx⟩
      case measure=>simp[intOf];omega
     ·obtain rfl:i=N.length:=by omega
      have dU:¬(N.length:Int)<(N.length:Int):=(by omega);rw[co]at bY;obtain⟨ga,gc,rfl,cK⟩:=uT bY.out;have dH:=zA cK;have b9:Hid (xX wr 260 pa ((S.map fp).flatMap cI)):=dG.out.keeps bO.out (by have h8:=HR.out;unfold rP at h8;exact h8) (by decide);have aR:Hid (wr.heap[w.heap.size+1]? = some (rP [] 0 (.slice none 0 0) (.slice none 0 0) 0)):=(by unfold Hid;rw[bO.out.block _ (by omega) (by omega)];exact dB.out);clear cK bY
      go_wp2_with (first
       | (refine wpList_load_row ?aJ 162 (.tmp 5) ?ho rb ?hx 162 (yd n1 fc (.slice pa S.length pc) (.slice ga N.length gc) ro) (0,0) _ bW.out underlying162 rfl (C7 _ _ _ _ _) ?_
          case ho=>rfl
          case aJ=>rfl
          case hx=>rfl)
       | (refine wpList_store_row ?aJ 162 (.tmp 4) (.tmp 58) ?ho (w.heap.size+1) (yd n1 fc (.slice pa S.length pc) (.slice ga N.length gc) ro) ?hx ?hy 162 (yd [] 0 (.slice none 0 0) (.slice none 0 0) 0) aR.out (C7 _ _ _ _ _) rfl (by simp[yd,Value.oneCell']) ?_
          case ho=>rfl
          case aJ=>rfl
          case hx=>rfl
          case hy=>rfl))
      have b3:Hid (kE (wr.setRow (w.heap.size+1) (yd n1 fc (.slice pa S.length pc) (.slice ga N.length gc) ro)) (⟨n1,fc,S.map fp,N.map fn,ro⟩,.slice pa S.length pc,.slice ga N.length gc)):=by
       refine⟨⟨pa,pc,by simp,?_⟩,⟨ga,gc,by simp,?_⟩,by simp;omega,by simp;omega⟩
       ·exact b9.out.keep λg cs fz hg=>setRow_other _ _ _ _ (λe=>by subst e;have h8:=aR.out;unfold rP at h8;rw[h8]at hg;simp at hg)
       ·exact dH.out.keep λg cs fz hg=>setRow_other _ _ _ _ (λe=>by subst e;have h8:=aR.out;unfold rP at h8;rw[h8]at hg;simp at hg)
      refine pe (v:=qS (⟨n1,fc,S.map fp,N.map fn,ro⟩,.slice pa S.length pc,.slice ga N.length gc)) (results_cell_row results93 _ _ (w.heap.size+1) 162 (yd n1 fc (.slice pa S.length pc) (.slice ga N.length gc) ro) (0,0) _ rfl (l9 _ _ _ _ aR.out) underlying162 rfl (C7 _ _ _ _ _)) rfl (show Fn bp w _ _ from ⟨(⟨n1,fc,S.map fp,N.map fn,ro⟩,.slice pa S.length pc,.slice ga N.length gc),HA.out.symm,rfl,b3.out,yK aS.out (by omega) _⟩)
theorem Qj{w2:World}{ob:Obj}(hg:(w.alloc ob).grownBy w2 v.ownBlock){x:Obj}(h:w.heap[b]? = some x)(hr:∀k,v.ownBlock=some k->B<=k)(hB:b<B):w2.heap[b]? = some x:=by
 have hb:=zP h;rw[hg.block b (by simp;omega) (λe=>by have:=hr b e.symm;omega)];exact yD h
structure lY(w:World)(iv cv rv:Value)(I:List yA)(C:List (Bs × Nat))(rs:List MX):Prop where
 inp:∃a c,iv=.slice a I.length c/\xX w 204 a (I.flatMap kD)
 r9:∃a c,cv=.slice a C.length c/\xX w 208 a (Jx C)
 og:∃a c,rv=.slice a rs.length c/\xX w 162 a (rs.flatMap cG)
 rows:∀x∈rs,kE w x
 ek:I.length<=10000
 ef:C.length<=10000
 nh:rs.length<=10000
def Y6(F:List zE)(w w':World)(e:Ending):Prop:=∃iv cv rv rs,e=.returned (.agg (cZ iv cv rv (zT (qN (vQ F) F gZ))))/\rs.map Prod.fst=uJ ((yC F).map yA.name) ((xR F).map Prod.fst) F/\lY w' iv cv rv (yC F) (xR F) rs/\Below w.heap.size w w'
theorem N6(F:List zE)(w w':World)(e:Ending)(I:List yA)(C:List (Bs × Nat))(G:List Bool)(iv cv rv:Value)(rs:List MX)(h1:I=yC F)(h2:C=xR F)(h3:G=zT (qN (vQ F) F gZ))(h4:rs.map Prod.fst=uJ (I.map yA.name) (C.map Prod.fst) F)(h5:lY w' iv cv rv I C rs)(h6:Below w.heap.size w w')(h7:e=.returned (.agg (cZ iv cv rv G))):Y6 F w w' e:=by
 unfold Y6;rw[<-h1,<-h2,<-h3];exact⟨iv,cv,rv,rs,h7,h4,h5,h6⟩
theorem uf:(prog.info? 162).map (λi=>(i.zero,i.size,i.bytes))=some (some (.agg #[.string ⟨#[]⟩,.int .i64 0,.slice none 0 0,.slice none 0 0,.int .i64 0]),5,80):=by kernel_rfl
theorem Kq{w4 w5:World}{A1 A2:Obj}{rv:Value}{n mb:Nat}{ys:List Value}{iv cv bf:Value}{G:List Bool}{a:Option Addr}(h:xX w4 t a xs)(h1:t≠162)(h2:t≠127)(bQ:w4.ownsRow B 162 5 rv n ys)(hg:((w4.alloc A1).alloc A2).grownBy w5 rv.ownBlock)(hM:w5.heap[mb]? = some (cY iv cv bf G)):xX (w5.setCell ⟨mb,2,none⟩ v) t a xs :=
 (((h.below (fk (tg _) A1)).below (fk (tg _) A2)).grown ((bQ.alloc A1).alloc A2) h1 hg).set (by unfold cY at hM;exact hM) h2
theorem vk{w4 w5:World}{A1 A2:Obj}{rv:Value}{n mb:Nat}{ys:List Value}{iv cv bf:Value}{G:List Bool}{z:MX}(h:kE w4 z)(bQ:w4.ownsRow B 162 5 rv n ys)(hg:((w4.alloc A1).alloc A2).grownBy w5 rv.ownBlock)(hM:w5.heap[mb]? = some (cY iv cv bf G)):kE (w5.setCell ⟨mb,2,none⟩ v) z:=by
 obtain⟨a',c',h1,h2⟩:=h.sum;obtain⟨c8,c7,h3,h4⟩:=h.guard;exact⟨⟨a',c',h1,Kq h2 (by decide) (by decide) bQ hg hM⟩,⟨c8,c7,h3,Kq h4 (by decide) (by decide) bQ hg hM⟩,h.ek,h.ef⟩
theorem Ra:(prog.info? 204).map (λi=>(i.zero,i.size,i.bytes))=some (some (.agg #[.string ⟨#[]⟩,.bool false,.int .i64 0,.int .i64 0]),4,40):=by kernel_rfl
def H8(x:Bs × Nat):List Value:=[.string ⟨x.1.toArray⟩,.int .i64 (x.2:Nat)]
end Go.Proofs.YtnbpdffdnphbeabGreatDoor
