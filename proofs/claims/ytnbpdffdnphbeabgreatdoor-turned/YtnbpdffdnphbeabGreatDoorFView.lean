import Derived.Test.YtnbpdffdnphbeabGreatDoorPFv
set_option maxHeartbeats 800000
set_option maxRecDepth 100000
namespace Go.Proofs.YtnbpdffdnphbeabGreatDoor
open Go.RowKit
variable{v:FV}{g:Nat}{w:World}
structure YI(w:World)(g:Nat)(v:FV):Prop where
 blk:∃cs:Array Value,w.heap[g]? = some (.cells cs 110 (0,0))/\cs.size=13/\(∀i,i<5->cs[i]? = some (.int .i64 (v.inn i)))/\(∀i,i<4->cs[5+i]? = some (.bool (v.has i)))/\(∀i,i<4->cs[9+i]? = some (.int .i64 (v.val i)))
theorem YI.below{w':World}(h:YI w g v)(hb:Below w.heap.size w w'):YI w' g v:=by
 obtain⟨cs,h1,h2⟩:=h.blk;exact⟨cs,(hb.block g (zM h1)).trans h1,h2⟩
theorem YI.free(h:YI w g v)(k:Nat):w.frozen? ⟨g,k,none⟩=false:=by
 obtain⟨cs,h1,h2⟩:=h.blk;simp[World.frozen?,h1]
theorem YI.cells(h:YI w g v):(∀i,i<5->w.cell? ⟨g,i,none⟩=some (.int .i64 (v.inn i)))/\(∀i,i<4->w.cell? ⟨g,5+i,none⟩=some (.bool (v.has i)))/\(∀i,i<4->w.cell? ⟨g,9+i,none⟩=some (.int .i64 (v.val i))):=by
 obtain⟨cs,h1,h2,h3,h4,h5⟩:=h.blk;exact⟨fun i hi=>(zB h1 i).trans (h3 i hi),fun i hi=>(zB h1 _).trans (h4 i hi),fun i hi=>(zB h1 _).trans (h5 i hi)⟩
theorem YI.setI(h:YI w g v)(k:Nat)(hk:k<5)(z:Int):YI (w.setCell ⟨g,k,none⟩ (.int .i64 z)) g ⟨aO v.inn k z,v.has,v.val⟩:=by
 obtain⟨cs,h1,h2,h3,h4,h5⟩:=h.blk;refine⟨_,tq _ _ _ _ _ _ h1,by simp[h2],fun i hi=>?_,fun i hi=>?_,fun i hi=>?_⟩
 ·rw[vT (by omega)];show _=some (Value.int .i64 (aO v.inn k z i));unfold aO;split
  ·rfl
  ·exact h3 i hi
 ·rw[vT (by omega),tb (by omega)];exact h4 i hi
 ·rw[vT (by omega),tb (by omega)];exact h5 i hi
theorem YI.setH(h:YI w g v)(k:Nat)(hk:k<4)(z:Bool):YI (w.setCell ⟨g,5+k,none⟩ (.bool z)) g ⟨v.inn,aO v.has k z,v.val⟩:=by
 obtain⟨cs,h1,h2,h3,h4,h5⟩:=h.blk;refine⟨_,tq _ _ _ _ _ _ h1,by simp[h2],fun i hi=>?_,fun i hi=>?_,fun i hi=>?_⟩
 ·rw[vT (by omega),tb (by omega)];exact h3 i hi
 ·rw[vT (by omega)];show _=some (Value.bool (aO v.has k z i));unfold aO
  by_cases e:i=k
  ·rw[tl (by omega),tl e]
  ·rw[tb (by omega),tb e];exact h4 i hi
 ·rw[vT (by omega),tb (by omega)];exact h5 i hi
theorem YI.drew(h:YI w g v):YI w.drew g v:=h.below (py (tg _ _))
theorem UV(w:World):YI (w.alloc (.cells #[.int .i64 0,.int .i64 0,.int .i64 0,.int .i64 0,.int .i64 0,.bool false,.bool false,.bool false,.bool false,.int .i64 0,.int .i64 0,.int .i64 0,.int .i64 0] 110)) w.heap.size ⟨fun _=>0,fun _=>false,fun _=>0⟩:=by
 refine⟨_,zG _ _,rfl,fun i hi=>?_,fun i hi=>?_,fun i hi=>?_⟩
 ·have:i=0\/i=1\/i=2\/i=3\/i=4:=by omega
  rcases this with rfl|rfl|rfl|rfl|rfl <;> rfl
 ·have:i=0\/i=1\/i=2\/i=3:=by omega
  rcases this with rfl|rfl|rfl|rfl <;> rfl
 ·have:i=0\/i=1\/i=2\/i=3:=by omega
  rcases this with rfl|rfl|rfl|rfl <;> rfl
theorem zHB(w:World)(a:Option Addr)(m c:Nat)(h:mK w a m)(i:Nat)(_hi9:i<9) :
 Calls Tryz.prog 40 #[.slice a m c,.int .i64 i] w fun e w'=>∃z,e=.returned (.int .i64 z)/\qS z/\w'=w:=by
 have hm:=h.few;unfold maxLen at hm;by_cases hi:i<m
 ·obtain⟨g,o,z,rfl,hc,hz⟩:=h.at hi
  have HZ:=zA hz;have b:((i:Int)<(m:Int)):=by omega
  clear h hz
  go_enter Tryz.func40,Tryz.ntmps40
  go_wp2_with fail
  go_ret
  exact⟨z,rfl,HZ.out,rfl⟩
 ·have b:¬((i:Int)<(m:Int)):=by omega
  clear h
  go_enter Tryz.func40,Tryz.ntmps40
  go_wp2_with fail
  go_ret
  exact⟨0,rfl,by unfold qS;omega,rfl⟩
theorem gP.mad{M:yB}(h:gP w g M):∃rv hv,qR w g M.lo M.hi rv M.over hv:=let ⟨_,_,_,_,_,_,hm,_⟩:=h.mem;⟨_,_,hm⟩
def Db(M:yB)(v:FV)(i:Nat):Prop:=∀j,j<i->(j<3->M.lo j<=v.inn j/\v.inn j<=M.hi j)/\(3<=j->v.inn j=0\/v.inn j=1)
theorem Db.next{M:yB}{i:Nat}(h:Db M v i)(z:Int)(hz:(i<3->M.lo i<=z/\z<=M.hi i)/\(3<=i->z=0\/z=1)):Db M ⟨aO v.inn i z,v.has,v.val⟩ (i+1):=fun j hj=>by
 show (j<3->M.lo j<=aO v.inn i z j/\aO v.inn i z j<=M.hi j)/\(3<=j->aO v.inn i z j=0\/aO v.inn i z j=1);by_cases e:j=i
 ·subst e;rw[YN];exact hz
 ·rw[UX e];exact h j (by omega)
theorem zBF(w:World)(g:Nat)(M:yB)(ra:Option Addr)(rn rc:Nat)(hM:gP w g M)(hO:yA M)(hR:mK w ra rn) :
 Calls Tryz.prog 13 #[.pointer (some ⟨g,0,none⟩),.slice ra rn rc] w fun e w'=>∃gv v,e=.returned (.pointer (some ⟨gv,0,none⟩))/\YI w' gv v/\lV M v/\Below w.heap.size w w'/\w.heap.size<=gv:=by
 have HMd:Hid (∀w':World,Below w.heap.size w w'->∃rv hv,qR w' g M.lo M.hi rv M.over hv):=fun w' hb=>(hM.below hb).mad;have HNu:=zA hO.nums;have HRw:=zA (fun w' (hb:Below w.heap.size w w')=>hR.below hb);have HPk:=zA YH;have hglt:g<w.heap.size:=by obtain⟨_,_,hm⟩:=hM.mad;exact hm.lt
 clear hM hO hR
 go_enter Tryz.func13,Tryz.ntmps13
 go_upto_region 2 with fail
 have HV0:=zA (UV w);have HB0:Hid (Below w.heap.size w (w.alloc (.cells #[.int .i64 0,.int .i64 0,.int .i64 0,.int .i64 0,.int .i64 0,.bool false,.bool false,.bool false,.bool false,.int .i64 0,.int .i64 0,.int .i64 0,.int .i64 0] 110))):=fw (j1 _) _;generalize w.alloc (.cells #[.int .i64 0,.int .i64 0,.int .i64 0,.int .i64 0,.int .i64 0,.bool false,.bool false,.bool false,.bool false,.int .i64 0,.int .i64 0,.int .i64 0,.int .i64 0] 110)=w0 at *;go_wp2_with fail
 go_loopw [6] (fun iv wr=>∃(i:Nat) (v:FV),i<=5/\iv=.int .i64 i/\Hid (YI wr w.heap.size v)/\Hid (Db M v i)/\Hid (Below w.heap.size w wr)) (fun iv _=>5-(intOf iv).toNat)
 case atStart=>exact⟨0,_,tx _,rfl,HV0,zA (fun j hj=>by omega),HB0⟩
 case round =>
  obtain⟨i,v,hi5,rfl,HV,HI,HB⟩:=hrel;by_cases zLL:i<5
  ·have c1:(i:Int)<5:=by omega
   have HA:=zA (zHB wr ra rn rc (HRw.out wr HB.out) i (by omega));have fz:=HV.out.free i;have m0:=HV.out.cells.1 i zLL;go_wp2_with fail
   refine HA.out.mono ?_;rintro e w4 ⟨z,rfl,hz,hw⟩;obtain rfl:=hw.symm;have HZ:=zA hz;clear hz HA;have HStI:Hid (∀q:Int,YI (wr.setCell ⟨w.heap.size,i,none⟩ (.int .i64 q)) w.heap.size ⟨aO v.inn i q,v.has,v.val⟩):=fun q=>HV.out.setI i zLL _;by_cases h3:i<3
   ·have c3:(i:Int)<3:=by omega
    obtain⟨rv,hv,hmad⟩:=HMd.out wr HB.out;have m1:=hmad.cells.1 i h3;have m2:=hmad.cells.2.1 i h3;clear hmad;obtain⟨hn0,hn1,hn2⟩:=HNu.out i h3;have HNx:Hid (∀q:Int,0<=q->q<M.hi i-M.lo i+1->Db M ⟨aO v.inn i (M.lo i+q),v.has,v.val⟩ (i+1)):=fun q h1 h2=>HI.out.next _ ⟨fun _=>⟨by omega,by omega⟩,fun h=>by omega⟩
    generalize M.lo i=lo at *;generalize M.hi i=hi at *;have HP:=zA (fun w'=>HPk.out w' z (hi-lo+1) HZ.out (by omega) (by omega));clear HMd HNu HRw HPk;have wr1:IntKind.i64.wrap (hi-lo)=hi-lo:=by simp[IntKind.wrap,IntKind.signed,IntKind.bits];omega
    have wr2:IntKind.i64.wrap (hi-lo+1)=hi-lo+1:=by simp[IntKind.wrap,IntKind.signed,IntKind.bits];omega
    have HK:Hid (∀q:Value,(wr.setCell ⟨w.heap.size,i,none⟩ q).drew.cell? ⟨g,i,none⟩=some (.int .i64 lo)/\(wr.setCell ⟨w.heap.size,i,none⟩ q).drew.cell? ⟨g,3+i,none⟩=some (.int .i64 hi)):=fun q=>by
     have hb:Below w.heap.size wr (wr.setCell ⟨w.heap.size,i,none⟩ q).drew:=py ((tg w.heap.size wr).setCell (p:=⟨w.heap.size,i,none⟩) (j1 _) q);exact⟨(hb.cell (p:=⟨g,i,none⟩) hglt).trans m1,(hb.cell (p:=⟨g,3+i,none⟩) hglt).trans m2⟩
    have HW3:Hid (∀r:Nat,(r:Int)<hi-lo+1->IntKind.i64.wrap (lo+(r:Int))=lo+(r:Int)):=fun r hr=>by simp[IntKind.wrap,IntKind.signed,IntKind.bits];omega
    go_upto_region 7 with fail
    go_region_held3 (fun w'=>w'.cell? ⟨g,i,none⟩=some (.int .i64 lo)/\w'.cell? ⟨g,3+i,none⟩=some (.int .i64 hi)) (first|exact HK.out _|go_keep) (
     (go_at_call 41;refine(HP.out _).mono ?_;rintro e w4 ⟨r,rfl,hr,hw⟩;obtain rfl:=hw.symm))
    all_goals
     go_wp2_with fail
     go_roundw
     case rel =>
      have e3:=HW3.out r hr
      first
       | exact⟨i+1,⟨aO v.inn i (IntKind.i64.wrap (lo+(r:Int))),v.has,v.val⟩,by omega,by go_num,zA (HStI.out _).drew,by rw[e3];exact zA (HNx.out (r:Int) (by omega) hr),zA (py (HB.out.setCell (j1 _) _))⟩
       | exact⟨i+1,_,by omega,by go_num,zA (HStI.out (lo+(r:Int))).drew,zA (HNx.out (r:Int) (by omega) hr),zA (py (HB.out.setCell (j1 _) _))⟩
     case measure=>simp[intOf];omega
   ·have c3:¬(i:Int)<3:=by omega
    have HP:=zA (fun w'=>HPk.out w' z 2 HZ.out (by omega) (by omega));have HNx:Hid (∀q:Int,0<=q->q<2->Db M ⟨aO v.inn i q,v.has,v.val⟩ (i+1)):=fun q h1 h2=>HI.out.next _ ⟨fun h=>by omega,fun _=>by omega⟩
    clear HMd HNu HRw HPk
    go_upto_region 8 with fail
    go_region_held3 (fun _=>True) (trivial) (
     (go_at_call 41;refine(HP.out _).mono ?_;rintro e w4 ⟨r,rfl,hr,hw⟩;obtain rfl:=hw.symm))
    all_goals
     go_wp2_with fail
     go_roundw
     case rel=>exact⟨i+1,_,by omega,by go_num,zA (HStI.out (r:Int)).drew,zA (HNx.out (r:Int) (by omega) hr),zA (py (HB.out.setCell (j1 _) _))⟩
     case measure=>simp[intOf];omega
  ·obtain rfl:i=5:=by omega
   have c1:¬((5:Nat):Int)<5:=by omega
   go_wp2_with fail
   go_loopw [8] (fun iv wr=>∃(i:Nat) (v:FV),i<=4/\iv=.int .i64 i/\Hid (YI wr w.heap.size v)/\Hid (Db M v 5)/\Hid (Below w.heap.size w wr)) (fun iv _=>4-(intOf iv).toNat)
   case atStart=>exact⟨0,v,tx _,rfl,HV,HI,HB⟩
   case round =>
    clear HV HI HB;obtain⟨i,v,hi4,rfl,HV,HI,HB⟩:=hrel;by_cases zLY:i<4
    ·have c2:(i:Int)<4:=by omega
     have HA:=zA (zHB wr ra rn rc (HRw.out wr HB.out) (5+i) (by omega));rw[show ((5+i:Nat):Int)=5+(i:Int) by omega]at HA;have fz:=HV.out.free (5+i);have m0:=HV.out.cells.2.1 i zLY;go_wp2_with fail
     refine HA.out.mono ?_;rintro e w4 ⟨z,rfl,hz,hw⟩;obtain rfl:=hw.symm;have HP:=zA (fun w'=>HPk.out w' z 2 hz (by omega) (by omega));have zM5:Hid (∀q:Bool,YI (wr.setCell ⟨w.heap.size,5+i,none⟩ (.bool q)) w.heap.size ⟨v.inn,aO v.has i q,v.val⟩):=fun q=>HV.out.setH i zLY _;clear hz HA
     go_upto_region 13 with fail
     clear HMd HNu HRw HPk
     go_region_held3 (fun _=>True) (trivial) (
      (go_at_call 41;refine(HP.out _).mono ?_;rintro e w4 ⟨r,rfl,hr,hw⟩;obtain rfl:=hw.symm))
     all_goals
      go_wp2_with fail
      go_roundw
      case rel=>exact⟨i+1,_,by omega,by go_num,zA (zM5.out _).drew,HI,zA (py (HB.out.setCell (j1 _) _))⟩
      case measure=>simp[intOf];omega
    ·have c2:¬(i:Int)<4:=by omega
     have HRm:Hid (lV M v):=⟨fun i hi=>(HI.out i (by omega)).1 hi,fun i h3 h5=>(HI.out i h5).2 h3⟩;go_wp2_with fail
     go_ret
     exact⟨w.heap.size,rfl,v,HV.out,HRm.out,HB.out,j1 _⟩
theorem zFV(w:World)(g:Nat)(M:yB)(ra:Option Addr)(rn rc:Nat)(hM:gP w g M)(hO:yA M)(hR:mK w ra rn) :
 Calls Tryz.prog 13 #[.pointer (some ⟨g,0,none⟩),.slice ra rn rc] w fun e w'=>∃gv v,e=.returned (.pointer (some ⟨gv,0,none⟩))/\YI w' gv v/\lV M v/\Below w.heap.size w w' :=
 (zBF w g M ra rn rc hM hO hR).mono fun _ _ ⟨gv,v,h1,h2,h3,h4,_⟩=>⟨gv,v,h1,h2,h3,h4⟩
end Go.Proofs.YtnbpdffdnphbeabGreatDoor
