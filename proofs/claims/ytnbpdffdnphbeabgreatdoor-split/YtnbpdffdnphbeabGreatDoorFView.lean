import Derived.Test.YtnbpdffdnphbeabGreatDoorPFv
set_option maxHeartbeats 2000000
set_option maxRecDepth 100000
namespace Go.Proofs.YtnbpdffdnphbeabGreatDoor
open Go.RowKit
variable{v:FV}{i g:Nat}{w:World}
structure wW(w:World)(g:Nat)(v:FV):Prop where
 blk:∃cs:Array Value,w.heap[g]? = some (.cells cs 110 (0,0))/\cs.size=13/\(∀i,i<5->cs[i]? = some (.int .i64 (v.inn i)))/\(∀i,i<4->cs[5+i]? = some (.bool (v.has i)))/\(∀i,i<4->cs[9+i]? = some (.int .i64 (v.val i)))
theorem wW.below{w':World}(h:wW w g v)(hb:Below w.heap.size w w'):wW w' g v:=by
 obtain⟨cs,h1,h2⟩:=h.blk;exact⟨cs,(hb.block g (zJ h1)).trans h1,h2⟩
theorem wW.free(h:wW w g v)(k:Nat):w.frozen? ⟨g,k,none⟩=false:=by
 obtain⟨cs,h1,h2⟩:=h.blk;simp[World.frozen?,h1]
theorem wW.cells(h:wW w g v):(∀i,i<5->w.cell? ⟨g,i,none⟩=some (.int .i64 (v.inn i)))/\(∀i,i<4->w.cell? ⟨g,5+i,none⟩=some (.bool (v.has i)))/\(∀i,i<4->w.cell? ⟨g,9+i,none⟩=some (.int .i64 (v.val i))):=by
 obtain⟨cs,h1,h2,h3,h4,h5⟩:=h.blk;exact⟨fun i hi=>(zB h1 i).trans (h3 i hi),fun i hi=>(zB h1 _).trans (h4 i hi),fun i hi=>(zB h1 _).trans (h5 i hi)⟩
theorem wW.setI(h:wW w g v)(k:Nat)(hk:k<5)(z:Int):wW (w.setCell ⟨g,k,none⟩ (.int .i64 z)) g ⟨sU v.inn k z,v.has,v.val⟩:=by
 obtain⟨cs,h1,h2,h3,h4,h5⟩:=h.blk;refine⟨_,tr _ _ _ _ _ _ h1,by simp[h2],fun i hi=>?_,fun i hi=>?_,fun i hi=>?_⟩
 ·rw[vN (by omega)];show _=some (Value.int .i64 (sU v.inn k z i));unfold sU;split
  ·rfl
  ·exact h3 i hi
 ·rw[vN (by omega),tb (by omega)];exact h4 i hi
 ·rw[vN (by omega),tb (by omega)];exact h5 i hi
theorem wW.setH(h:wW w g v)(k:Nat)(hk:k<4)(z:Bool):wW (w.setCell ⟨g,5+k,none⟩ (.bool z)) g ⟨v.inn,sU v.has k z,v.val⟩:=by
 obtain⟨cs,h1,h2,h3,h4,h5⟩:=h.blk;refine⟨_,tr _ _ _ _ _ _ h1,by simp[h2],fun i hi=>?_,fun i hi=>?_,fun i hi=>?_⟩
 ·rw[vN (by omega),tb (by omega)];exact h3 i hi
 ·rw[vN (by omega)];show _=some (Value.bool (sU v.has k z i));unfold sU
  by_cases e:i=k
  ·rw[tl (by omega),tl e]
  ·rw[tb (by omega),tb e];exact h4 i hi
 ·rw[vN (by omega),tb (by omega)];exact h5 i hi
theorem wW.drew(h:wW w g v):wW w.drew g v:=h.below (pj (tg _ _))
theorem UB(w:World):wW (w.alloc (.cells #[.int .i64 0,.int .i64 0,.int .i64 0,.int .i64 0,.int .i64 0,.bool false,.bool false,.bool false,.bool false,.int .i64 0,.int .i64 0,.int .i64 0,.int .i64 0] 110)) w.heap.size ⟨fun _=>0,fun _=>false,fun _=>0⟩:=by
 refine⟨_,zG _ _,rfl,fun i hi=>?_,fun i hi=>?_,fun i hi=>?_⟩
 ·have:i=0\/i=1\/i=2\/i=3\/i=4:=by omega
  rcases this with rfl|rfl|rfl|rfl|rfl <;> rfl
 ·have:i=0\/i=1\/i=2\/i=3:=by omega
  rcases this with rfl|rfl|rfl|rfl <;> rfl
 ·have:i=0\/i=1\/i=2\/i=3:=by omega
  rcases this with rfl|rfl|rfl|rfl <;> rfl
theorem zGL(w:World)(a:Option Addr)(m c:Nat)(h:bK w a m)(i:Nat)(_hi9:i<9) :
 Calls Tryz.prog 40 #[.slice a m c,.int .i64 i] w fun e w'=>∃z,e=.returned (.int .i64 z)/\jA z/\w'=w:=by
 have hm:=h.few;unfold maxLen at hm;by_cases hi:i<m
 ·obtain⟨g,o,z,rfl,hc,hz⟩:=h.at hi
  have HZ:=zA hz;have b:((i:Int)<(m:Int)):=by omega
  clear h hz
  go_enter Tryz.func40,Tryz.ntmps40
  go_wp2_with fail
  go_ret
  exact⟨z,rfl,HZ.out,rfl⟩
 ·have b:¬((i:Int)<(m:Int)):=by omega
  clear h
  go_enter Tryz.func40,Tryz.ntmps40
  go_wp2_with fail
  go_ret
  exact⟨0,rfl,by unfold jA;omega,rfl⟩
theorem gM.mad{M:yC}(h:gM w g M):∃rv hv,uX w g M.lo M.hi rv M.over hv:=let ⟨_,_,_,_,_,_,hm,_⟩:=h.mem;⟨_,_,hm⟩
def CB(M:yC)(v:FV)(i:Nat):Prop:=∀j,j<i->(j<3->M.lo j<=v.inn j/\v.inn j<=M.hi j)/\(3<=j->v.inn j=0\/v.inn j=1)
theorem CB.next{M:yC}(h:CB M v i)(z:Int)(hz:(i<3->M.lo i<=z/\z<=M.hi i)/\(3<=i->z=0\/z=1)):CB M ⟨sU v.inn i z,v.has,v.val⟩ (i+1):=fun j hj=>by
 show (j<3->M.lo j<=sU v.inn i z j/\sU v.inn i z j<=M.hi j)/\(3<=j->sU v.inn i z j=0\/sU v.inn i z j=1);by_cases e:j=i
 ·subst e;rw[Y6];exact hz
 ·rw[UD e];exact h j (by omega)
theorem zAK(w:World)(g:Nat)(M:yC)(ra:Option Addr)(rn rc:Nat)(hM:gM w g M)(hO:yI M)(hR:bK w ra rn) :
 Calls Tryz.prog 13 #[.pointer (some ⟨g,0,none⟩),.slice ra rn rc] w fun e w'=>∃gv v,e=.returned (.pointer (some ⟨gv,0,none⟩))/\wW w' gv v/\lW M v/\Below w.heap.size w w'/\w.heap.size<=gv:=by
 have HMd:Hid (∀w':World,Below w.heap.size w w'->∃rv hv,uX w' g M.lo M.hi rv M.over hv):=fun w' hb=>(hM.below hb).mad;have HNu:=zA hO.nums;have HRw:=zA (fun w' (hb:Below w.heap.size w w')=>hR.below hb);have HPk:=zA Y0;have hglt:g<w.heap.size:=by obtain⟨_,_,hm⟩:=hM.mad;exact hm.lt
 clear hM hO hR
 go_enter Tryz.func13,Tryz.ntmps13
 go_upto_region 2 with fail
 have HV0:=zA (UB w);have HB0:Hid (Below w.heap.size w (w.alloc (.cells #[.int .i64 0,.int .i64 0,.int .i64 0,.int .i64 0,.int .i64 0,.bool false,.bool false,.bool false,.bool false,.int .i64 0,.int .i64 0,.int .i64 0,.int .i64 0] 110))):=gb (j1 _) _;generalize w.alloc (.cells #[.int .i64 0,.int .i64 0,.int .i64 0,.int .i64 0,.int .i64 0,.bool false,.bool false,.bool false,.bool false,.int .i64 0,.int .i64 0,.int .i64 0,.int .i64 0] 110)=w0 at *;go_wp2_with fail
 go_loopw [6] (fun iv wr=>∃(i:Nat) (v:FV),i<=5/\iv=.int .i64 i/\Hid (wW wr w.heap.size v)/\Hid (CB M v i)/\Hid (Below w.heap.size w wr)) (fun iv _=>5-(intOf iv).toNat)
 case atStart=>exact⟨0,_,p7 _,rfl,HV0,zA (fun j hj=>by omega),HB0⟩
 case round =>
  obtain⟨i,v,hi5,rfl,HV,HI,HB⟩:=hrel;by_cases zKZ:i<5
  ·have c1:(i:Int)<5:=by omega
   have HA:=zA (zGL wr ra rn rc (HRw.out wr HB.out) i (by omega));have fz:=HV.out.free i;have m0:=HV.out.cells.1 i zKZ;go_wp2_with fail
   refine HA.out.mono ?_;rintro e w4 ⟨z,rfl,hz,hw⟩;obtain rfl:=hw.symm;have HZ:=zA hz;clear hz HA;have HStI:Hid (∀q:Int,wW (wr.setCell ⟨w.heap.size,i,none⟩ (.int .i64 q)) w.heap.size ⟨sU v.inn i q,v.has,v.val⟩):=fun q=>HV.out.setI i zKZ _;by_cases h3:i<3
   ·have c3:(i:Int)<3:=by omega
    obtain⟨rv,hv,hmad⟩:=HMd.out wr HB.out;have m1:=hmad.cells.1 i h3;have m2:=hmad.cells.2.1 i h3;clear hmad;obtain⟨hn0,hn1,hn2⟩:=HNu.out i h3;have HNx:Hid (∀q:Int,0<=q->q<M.hi i-M.lo i+1->CB M ⟨sU v.inn i (M.lo i+q),v.has,v.val⟩ (i+1)):=fun q h1 h2=>HI.out.next _ ⟨fun _=>⟨by omega,by omega⟩,fun h=>by omega⟩
    generalize M.lo i=lo at *;generalize M.hi i=hi at *;have HP:=zA (fun w'=>HPk.out w' z (hi-lo+1) HZ.out (by omega) (by omega));clear HMd HNu HRw HPk;have wr1:IntKind.i64.wrap (hi-lo)=hi-lo:=by simp[IntKind.wrap,IntKind.signed,IntKind.bits];omega
    have wr2:IntKind.i64.wrap (hi-lo+1)=hi-lo+1:=by simp[IntKind.wrap,IntKind.signed,IntKind.bits];omega
    have HK:Hid (∀q:Value,(wr.setCell ⟨w.heap.size,i,none⟩ q).drew.cell? ⟨g,i,none⟩=some (.int .i64 lo)/\(wr.setCell ⟨w.heap.size,i,none⟩ q).drew.cell? ⟨g,3+i,none⟩=some (.int .i64 hi)):=fun q=>by
     have hb:Below w.heap.size wr (wr.setCell ⟨w.heap.size,i,none⟩ q).drew:=pj ((tg w.heap.size wr).setCell (p:=⟨w.heap.size,i,none⟩) (j1 _) q);exact⟨(hb.cell (p:=⟨g,i,none⟩) hglt).trans m1,(hb.cell (p:=⟨g,3+i,none⟩) hglt).trans m2⟩
    have HW3:Hid (∀r:Nat,(r:Int)<hi-lo+1->IntKind.i64.wrap (lo+(r:Int))=lo+(r:Int)):=fun r hr=>by simp[IntKind.wrap,IntKind.signed,IntKind.bits];omega
    go_upto_region 7 with fail
    go_region_held3 (fun w'=>w'.cell? ⟨g,i,none⟩=some (.int .i64 lo)/\w'.cell? ⟨g,3+i,none⟩=some (.int .i64 hi)) (first|exact HK.out _|go_keep) (
     (go_at_call 41;refine(HP.out _).mono ?_;rintro e w4 ⟨r,rfl,hr,hw⟩;obtain rfl:=hw.symm))
    all_goals
     go_wp2_with fail
     go_roundw
     case rel =>
      have e3:=HW3.out r hr
      first
       | exact⟨i+1,⟨sU v.inn i (IntKind.i64.wrap (lo+(r:Int))),v.has,v.val⟩,by omega,by go_num,zA (HStI.out _).drew,by rw[e3];exact zA (HNx.out (r:Int) (by omega) hr),zA (pj (HB.out.setCell (j1 _) _))⟩
       | exact⟨i+1,_,by omega,by go_num,zA (HStI.out (lo+(r:Int))).drew,zA (HNx.out (r:Int) (by omega) hr),zA (pj (HB.out.setCell (j1 _) _))⟩
     case measure=>simp[intOf];omega
   ·have c3:¬(i:Int)<3:=by omega
    have HP:=zA (fun w'=>HPk.out w' z 2 HZ.out (by omega) (by omega));have HNx:Hid (∀q:Int,0<=q->q<2->CB M ⟨sU v.inn i q,v.has,v.val⟩ (i+1)):=fun q h1 h2=>HI.out.next _ ⟨fun h=>by omega,fun _=>by omega⟩
    clear HMd HNu HRw HPk
    go_upto_region 8 with fail
    go_region_held3 (fun _=>True) (trivial) (
     (go_at_call 41;refine(HP.out _).mono ?_;rintro e w4 ⟨r,rfl,hr,hw⟩;obtain rfl:=hw.symm))
    all_goals
     go_wp2_with fail
     go_roundw
     case rel=>exact⟨i+1,_,by omega,by go_num,zA (HStI.out (r:Int)).drew,zA (HNx.out (r:Int) (by omega) hr),zA (pj (HB.out.setCell (j1 _) _))⟩
     case measure=>simp[intOf];omega
  ·obtain rfl:i=5:=by omega
   have c1:¬((5:Nat):Int)<5:=by omega
   go_wp2_with fail
   go_loopw [8] (fun iv wr=>∃(i:Nat) (v:FV),i<=4/\iv=.int .i64 i/\Hid (wW wr w.heap.size v)/\Hid (CB M v 5)/\Hid (Below w.heap.size w wr)) (fun iv _=>4-(intOf iv).toNat)
   case atStart=>exact⟨0,v,p7 _,rfl,HV,HI,HB⟩
   case round =>
    clear HV HI HB;obtain⟨i,v,hi4,rfl,HV,HI,HB⟩:=hrel;by_cases zLH:i<4
    ·have c2:(i:Int)<4:=by omega
     have HA:=zA (zGL wr ra rn rc (HRw.out wr HB.out) (5+i) (by omega));rw[show ((5+i:Nat):Int)=5+(i:Int) by omega]at HA;have fz:=HV.out.free (5+i);have m0:=HV.out.cells.2.1 i zLH;go_wp2_with fail
     refine HA.out.mono ?_;rintro e w4 ⟨z,rfl,hz,hw⟩;obtain rfl:=hw.symm;have HP:=zA (fun w'=>HPk.out w' z 2 hz (by omega) (by omega));have zLL:Hid (∀q:Bool,wW (wr.setCell ⟨w.heap.size,5+i,none⟩ (.bool q)) w.heap.size ⟨v.inn,sU v.has i q,v.val⟩):=fun q=>HV.out.setH i zLH _;clear hz HA
     go_upto_region 13 with fail
     clear HMd HNu HRw HPk
     go_region_held3 (fun _=>True) (trivial) (
      (go_at_call 41;refine(HP.out _).mono ?_;rintro e w4 ⟨r,rfl,hr,hw⟩;obtain rfl:=hw.symm))
     all_goals
      go_wp2_with fail
      go_roundw
      case rel=>exact⟨i+1,_,by omega,by go_num,zA (zLL.out _).drew,HI,zA (pj (HB.out.setCell (j1 _) _))⟩
      case measure=>simp[intOf];omega
    ·have c2:¬(i:Int)<4:=by omega
     have HRm:Hid (lW M v):=⟨fun i hi=>(HI.out i (by omega)).1 hi,fun i h3 h5=>(HI.out i h5).2 h3⟩;go_wp2_with fail
     go_ret
     exact⟨w.heap.size,rfl,v,HV.out,HRm.out,HB.out,j1 _⟩
theorem zF7(w:World)(g:Nat)(M:yC)(ra:Option Addr)(rn rc:Nat)(hM:gM w g M)(hO:yI M)(hR:bK w ra rn) :
 Calls Tryz.prog 13 #[.pointer (some ⟨g,0,none⟩),.slice ra rn rc] w fun e w'=>∃gv v,e=.returned (.pointer (some ⟨gv,0,none⟩))/\wW w' gv v/\lW M v/\Below w.heap.size w w' :=
 (zAK w g M ra rn rc hM hO hR).mono fun _ _ ⟨gv,v,h1,h2,h3,h4,_⟩=>⟨gv,v,h1,h2,h3,h4⟩
theorem zJ1(w:World)(x y:Int)(k:Nat)(hk:k<6):Calls Tryz.prog 69 #[.int .i64 x,.int .i64 (k:Int),.int .i64 y] w fun e w'=>e=.returned (.bool (Zy x k y))/\w'=w:=by
 have h:k=0\/k=1\/k=2\/k=3\/k=4\/k=5:=by omega
 rcases h with rfl|rfl|rfl|rfl|rfl|rfl
 all_goals
  go_enter Tryz.func69,Tryz.ntmps69
  go_wp2_with fail
  go_ret
  refine⟨zF ?_,rfl⟩
  first
   | rfl
   | (unfold Zy;simp;done)
   | (unfold Zy;by_cases e:x=y <;> simp[e])
theorem zAP(w:World)(g:Nat)(v:FV)(t:zR)(low:List Nat)(hV:wW w g v)(ht:xL low t)(hl4:∀d∈low,d<4) :
 Calls Tryz.prog 54 #[.agg #[.bool t.or,.bool t.not,.bool t.pair,.int .i64 t.kind,.int .i64 t.x,.int .i64 t.y,.int .i64 t.mark,.int .i64 t.n],.pointer (some ⟨g,0,none⟩)] w fun e w'=>e=.returned (.bool (mJ v t))/\Below w.heap.size w w':=by
 have HB:Hid (∀o,Below w.heap.size w (w.alloc o)):=fun o=>gb (j1 _) o;have HVa:Hid (∀o,wW (w.alloc o) g v):=fun o=>hV.below (HB.out o);have HA:Hid (mJ v t=(XK v t != t.not)):=rfl;have HC:Hid (XK v t=if t.kind=0 then true else if t.kind=1 then decide (v.inn t.x.toNat=1) else if t.kind=2 then v.has t.x.toNat else if t.kind=3 then Zy (v.inn t.x.toNat) t.mark.toNat t.n else Zy (v.inn t.x.toNat) t.mark.toNat (v.inn t.y.toNat)):=rfl;have HCm:=zA zJ1;unfold xL at ht;have zLM:=zA ht;have HL4:=zA hl4;clear ht hV hl4;generalize mJ v t=TW at *;generalize hCW:XK v t=CW at *;clear hCW;obtain⟨o1,o2,o3,k,x,y,mk,n⟩:=t;simp only at HA HC zLM ⊢;rcases zLM.out with h|⟨h,x1,x2⟩|⟨h,d,hd,hx⟩|⟨h,⟨x1,x2⟩,⟨y1,y2⟩,⟨m1,m2⟩,n1,n2⟩
 ·subst h
  have HC2:Hid (CW=true):=HC.out;clear HC zLM HVa HCm
  go_enter Tryz.func54,Tryz.ntmps54
  go_wp2_with fail
  go_ret
  exact⟨zF (by rw[HA.out,HC2.out];cases o2 <;> rfl),HB.out _⟩
 ·subst h
  obtain⟨a,rfl⟩:∃a:Nat,x=(a:Int):=⟨x.toNat,by omega⟩;have HC2:Hid (CW=decide (v.inn a=1)):=HC.out;have ha:a<5:=by omega
  have q:=(HVa.out (.cells #[.bool o1,.bool o2,.bool o3,.int .i64 1,.int .i64 (a:Int),.int .i64 y,.int .i64 mk,.int .i64 n] 87)).cells.1 a ha;have a5:(a:Int)<5:=by omega
  clear HC zLM HVa HCm;generalize v.inn a=z at *
  go_enter Tryz.func54,Tryz.ntmps54
  go_upto_region 4 with fail
  go_region
  all_goals
   go_wp2_with fail
   go_ret
   exact⟨zF (by rw[HA.out,HC2.out];first|rfl|(by_cases e:z=1 <;> simp[e])),by first|exact HB.out _|exact pj (HB.out _)⟩
 ·subst h
  obtain rfl:x=(d:Int):=hx;have HC2:Hid (CW=v.has d):=HC.out;have hd4:=HL4.out d hd;have q:=(HVa.out (.cells #[.bool o1,.bool o2,.bool o3,.int .i64 2,.int .i64 (d:Int),.int .i64 y,.int .i64 mk,.int .i64 n] 87)).cells.2.1 d hd4;have a5:(d:Int)<4:=by omega
  clear HC zLM HVa HCm;generalize v.has d=z at *
  go_enter Tryz.func54,Tryz.ntmps54
  go_upto_region 6 with fail
  go_region
  all_goals
   go_wp2_with fail
   go_ret
   exact⟨zF (by rw[HA.out,HC2.out];first|rfl|(cases z <;> cases o2 <;> rfl)),by first|exact HB.out _|exact pj (HB.out _)⟩
 ·obtain⟨a,rfl⟩:∃a:Nat,x=(a:Int):=⟨x.toNat,by omega⟩
  obtain⟨b,rfl⟩:∃b:Nat,y=(b:Int):=⟨y.toNat,by omega⟩;obtain⟨m,rfl⟩:∃m:Nat,mk=(m:Int):=⟨mk.toNat,by omega⟩;have ha:a<5:=by omega
  have hb:b<5:=by omega
  have a5:(a:Int)<5:=by omega
  have b5:(b:Int)<5:=by omega
  rcases h with h|h
  ·subst h
   have HC2:Hid (CW=Zy (v.inn a) m n):=HC.out;have q:=(HVa.out (.cells #[.bool o1,.bool o2,.bool o3,.int .i64 3,.int .i64 (a:Int),.int .i64 (b:Int),.int .i64 (m:Int),.int .i64 n] 87)).cells.1 a ha;have HCc:=zA (fun w'=>HCm.out w' (v.inn a) n m (by omega));clear HC zLM HVa HCm;generalize Zy (v.inn a) m n=z at *;generalize v.inn a=va at *
   go_enter Tryz.func54,Tryz.ntmps54
   go_upto_region 8 with fail
   go_region_held3 (fun w'=>w'.cell? ⟨g,a,none⟩=some (.int .i64 va)/\w'.cell? ⟨w.heap.size,4,none⟩=some (.int .i64 (a:Int))/\w'.cell? ⟨w.heap.size,6,none⟩=some (.int .i64 (m:Int))/\w'.cell? ⟨w.heap.size,7,none⟩=some (.int .i64 n)) (go_keep) (
    (go_at_call 69;refine(HCc.out _).mono ?_;rintro e w4 ⟨rfl,hw⟩;obtain rfl:=hw.symm))
   all_goals
    go_wp2_with fail
    go_ret
    exact⟨zF (by rw[HA.out,HC2.out];first|rfl|(cases z <;> cases o2 <;> rfl)),by first|exact HB.out _|exact pj (HB.out _)⟩
  ·subst h
   have HC2:Hid (CW=Zy (v.inn a) m (v.inn b)):=HC.out;have q:=(HVa.out (.cells #[.bool o1,.bool o2,.bool o3,.int .i64 4,.int .i64 (a:Int),.int .i64 (b:Int),.int .i64 (m:Int),.int .i64 n] 87)).cells.1 a ha;have q2:=(HVa.out (.cells #[.bool o1,.bool o2,.bool o3,.int .i64 4,.int .i64 (a:Int),.int .i64 (b:Int),.int .i64 (m:Int),.int .i64 n] 87)).cells.1 b hb;have HCc:=zA (fun w'=>HCm.out w' (v.inn a) (v.inn b) m (by omega));clear HC zLM HVa HCm;generalize Zy (v.inn a) m (v.inn b)=z at *;generalize v.inn a=va at *;generalize v.inn b=vb at *
   go_enter Tryz.func54,Tryz.ntmps54
   go_upto_region 10 with fail
   go_region_held3 (fun w'=>w'.cell? ⟨g,a,none⟩=some (.int .i64 va)/\w'.cell? ⟨g,b,none⟩=some (.int .i64 vb)/\w'.cell? ⟨w.heap.size,4,none⟩=some (.int .i64 (a:Int))/\w'.cell? ⟨w.heap.size,5,none⟩=some (.int .i64 (b:Int))/\w'.cell? ⟨w.heap.size,6,none⟩=some (.int .i64 (m:Int))) (go_keep) (
    (go_at_call 69;refine(HCc.out _).mono ?_;rintro e w4 ⟨rfl,hw⟩;obtain rfl:=hw.symm))
   all_goals
    go_wp2_with fail
    go_ret
    exact⟨zF (by rw[HA.out,HC2.out];first|rfl|(cases z <;> cases o2 <;> rfl)),by first|exact HB.out _|exact pj (HB.out _)⟩
theorem FQ{ps:List yU}(hi:i<ps.length)(h:nU v (ps.take i)=true):nU v (ps.take (i+1))=(decide ((ps.getD i aD).head<0) || v.has (ps.getD i aD).head.toNat):=by
 have e:ps.take (i+1)=ps.take i++[ps.getD i aD]:=by rw[cy];simp[List.getD,hi]
 rw[e];unfold nU at h ⊢;rw[List.all_append,h];simp
theorem qg{ps:List yU}(hi:i<ps.length)(h:(decide ((ps.getD i aD).head<0) || v.has (ps.getD i aD).head.toNat)=false):nU v ps=false:=by
 cases hn:nU v ps
 ·rfl
 ·have:=List.all_eq_true.1 hn (ps.getD i aD) (tY aD hi)
  rw[this]at h;cases h
def pK(v:FV)(ts:List zR):Nat->Bool × Bool
 | 0=>(false,true)
 | i+1=>if i=0 then (false,mJ v (ts.getD 0 bV)) else if (ts.getD i bV).or=true then ((pK v ts i).1 || (pK v ts i).2,mJ v (ts.getD i bV)) else ((pK v ts i).1,(pK v ts i).2&&mJ v (ts.getD i bV))
theorem zD9(v:FV)(ts:List zR):∀(l:List zR) (i:Nat),0<i->i<=ts.length->ts.drop i=l->K1 v (pK v ts i).1 (pK v ts i).2 l=((pK v ts ts.length).1 || (pK v ts ts.length).2):=by
 intro l
 induction l with
 | nil =>
   intro i h0 hle hd
   have hge:ts.length<=i:=by
    rcases md i ts.length with h|h
    ·rw[po h]at hd;cases hd
    ·exact h
   obtain rfl:i=ts.length:=by omega
   rfl
 | cons t r ih =>
   intro i h0 hle hd
   have zKZ:i<ts.length:=by
    rcases md i ts.length with h|h
    ·exact h
    ·rw[pm h]at hd;cases hd
   rw[po zKZ]at hd;injection hd with h1 h2
   have hg:ts.getD i bV=t:=by simp[List.getD,zKZ,h1]
   have:=ih (i+1) (by omega) (by omega) h2;have e:pK v ts (i+1)=if t.or=true then ((pK v ts i).1 || (pK v ts i).2,mJ v t) else ((pK v ts i).1,(pK v ts i).2&&mJ v t):=by rw[pK,tb (show ¬i=0 by omega),hg]
   rw[<-this,e,K1];by_cases ho:t.or=true
   ·rw[tl ho,tl ho]
   ·rw[tb ho,tb ho]
theorem zA4(v:FV)(wh:Bool){ts:List zR}(h:0<ts.length):gI v wh ts=(((pK v ts ts.length).1 || (pK v ts ts.length).2) != wh):=by
 cases ts with
 | nil=>simp at h
 | cons t l =>
   have:=zD9 v (t::l) l 1 (by decide) (by simp) rfl;rw[<-this];rfl
theorem Ct(w:World)(g:Nat)(v:FV)(r:xP)(heads:List Nat)(pa qa:Option Addr)(pc qc:Nat)(hV:wW w g v)(hR:dI heads r)(hP:yZ w 89 pa (r.parts.flatMap nY))(hT:yZ w 87 qa (r.tests.flatMap mT)) :
 Calls Tryz.prog 34 #[.agg #[.int .i64 (r.head:Int),.bool r.whole,.slice pa r.parts.length pc,.slice qa r.tests.length qc],.pointer (some ⟨g,0,none⟩)] w fun e w'=>e=.returned (.bool (bJ v r))/\Below w.heap.size w w':=by
 have hl4:∀d∈xC heads r.head,d<4:=fun d hd=>by have:=iN hd;have:=hR.head;omega
 have HL4:=zA hl4;have HA:Hid (bJ v r=(nU v r.parts&&gI v r.whole r.tests)):=rfl;have HG:=zA (zA4 v r.whole hR.tests.1);have HPo:=zA hR.parts.2.2;have HTo:=zA hR.tests.2.2;have hp4:=hR.parts.2.1;have ht6:=hR.tests.2.1;have HB0:Hid (Below w.heap.size w (w.alloc (.cells #[.int .i64 (r.head:Int),.bool r.whole,.slice pa r.parts.length pc,.slice qa r.tests.length qc] 85))):=gb (j1 _) _;have HX0:Hid ((w.alloc (.cells #[.int .i64 (r.head:Int),.bool r.whole,.slice pa r.parts.length pc,.slice qa r.tests.length qc] 85)).heap[w.heap.size]? = some (.cells #[.int .i64 (r.head:Int),.bool r.whole,.slice pa r.parts.length pc,.slice qa r.tests.length qc] 85 (0,0))):=zG _ _;have HVb:=zA (fun w' (hb:Below w.heap.size w w')=>hV.below hb);have HPb:=zA (fun w' (hb:Below w.heap.size w w')=>hP.below hb);have HTb:=zA (fun w' (hb:Below w.heap.size w w')=>hT.below hb);have HNt:=zA (fun i hi=>FQ (v:=v) (ps:=r.parts) (i:=i) hi);have HNn:=zA (fun i hi=>qg (v:=v) (ps:=r.parts) (i:=i) hi);have HNa:Hid (r.parts.take r.parts.length=r.parts):=bw;clear hl4 hR hV hP hT;generalize bJ v r=ANS at *;generalize hwh:r.whole=wh at *;generalize hps:r.parts=ps at *;generalize hts:r.tests=ts at *;generalize (r.head:Int)=hdI at *;generalize xC heads r.head=low at *;clear hwh hps hts
 go_enter Tryz.func34,Tryz.ntmps34
 go_upto_region 1 with fail
 generalize w.alloc (.cells #[.int .i64 hdI,.bool wh,.slice pa ps.length pc,.slice qa ts.length qc] 85)=w0 at *;have HV0:=zA (HVb.out w0 HB0.out);have HP0:=zA (HPb.out w0 HB0.out);have b2:w0.cell? ⟨w.heap.size,2,none⟩=some (.slice pa ps.length pc):=zB HX0.out 2;go_wp2_with fail
 go_loop [5] (fun iv=>∃(i:Nat),i<=ps.length/\iv=.int .i64 (i:Int)/\Hid (nU v (ps.take i)=true)) (fun iv=>ps.length-(intOf iv).toNat)
 case atStart=>exact⟨0,p7 _,rfl,zA rfl⟩
 case round =>
  obtain⟨i,hi,rfl,HN⟩:=hrel;by_cases zKZ:i<ps.length
  ·have ii:(i:Int)<(ps.length:Int):=by omega
   have zLC:=HPo.out _ (tY aD zKZ);have hnx:=HNt.out i zKZ HN.out;have hnn:=HNn.out i zKZ;obtain⟨gp,e0,q4⟩:=HP0.out.cel.at ((zN nY 5 (fun _=>rfl) aD ps i 4 zKZ (by decide)).trans rfl);subst e0;generalize ps.getD i aD=p at *
   have hcase:p.head = -1\/∃d,d∈low/\p.head=((d:Nat):Int):=by
    rcases zLC with ⟨-,-,-,h⟩|⟨-,-,h⟩|⟨-,-,-,h⟩|⟨-,-,h⟩
    ·exact .inl h
    ·exact .inl h
    ·exact .inl h
    ·exact .inr h
   clear zLC;rcases hcase with h1|⟨d,hd,h1⟩
   ·rw[h1]at q4 hnx hnn
    have HN2:Hid (nU v (ps.take (i+1))=true):=hnx.trans rfl;clear hnx hnn HN;go_wp2_with fail
    go_round
    case rel=>exact⟨i+1,by omega,by go_num,HN2⟩
    case measure=>simp[intOf];omega
   ·rw[h1]at q4 hnx hnn
    have hd4:=HL4.out d hd;have qh:=HV0.out.cells.2.1 d hd4;have d4:(d:Int)<4:=by omega
    have d0:(0:Int)<=(d:Int):=by omega
    rw[ty (show ¬(d:Int)<0 by omega),bf,Int.toNat_natCast]at hnx hnn;cases hvd:v.has d
    ·rw[hvd]at qh hnx hnn
     have HZ:Hid (ANS=false):=by unfold Hid;rw[HA.out,hnn rfl];rfl
     clear hnx hnn HN hvd;go_wp2_with fail
     go_ret
     exact⟨zF HZ.out.symm,HB0.out⟩
    ·rw[hvd]at qh hnx hnn
     have HN2:=zA hnx;clear hnx hnn HN hvd;go_wp2_with fail
     go_round
     case rel=>exact⟨i+1,by omega,by go_num,HN2⟩
     case measure=>simp[intOf];omega
  ·obtain rfl:i=ps.length:=by omega
   have ii:¬(ps.length:Int)<(ps.length:Int):=by omega
   have HZ:Hid (ANS=(((pK v ts ts.length).1 || (pK v ts ts.length).2) != wh)):=by
    have:=HN.out;rw[HNa.out]at this;unfold Hid;rw[HA.out,this,HG.out];rfl
   clear HN HA HG HNt HNn HPo HP0 HNa;go_wp2_with fail
   go_loopw [7,8,9] (fun sv rv iv wr=>∃(i:Nat),i<=ts.length/\iv=.int .i64 (i:Int)/\sv=.bool (pK v ts i).1/\rv=.bool (pK v ts i).2/\Hid (wr.heap[w.heap.size]? = some (.cells #[.int .i64 hdI,.bool wh,.slice pa ps.length pc,.slice qa ts.length qc] 85 (0,0)))/\Hid (Below w.heap.size w wr)) (fun _ _ iv _=>ts.length-(intOf iv).toNat)
   case atStart=>exact⟨0,p7 _,rfl,rfl,rfl,HX0,HB0⟩
   case round =>
    clear HX0 HB0 HV0;obtain⟨i,hi,rfl,rfl,rfl,HX,HB⟩:=hrel;have b3:wr.cell? ⟨w.heap.size,3,none⟩=some (.slice qa ts.length qc):=zB HX.out 3;by_cases zKZ:i<ts.length
    ·have ii:(i:Int)<(ts.length:Int):=by omega
     have zLC:=HTo.out _ (tY bV zKZ);have HRs:Hid (pK v ts (i+1)=if i=0 then (false,mJ v (ts.getD 0 bV)) else if (ts.getD i bV).or=true then ((pK v ts i).1 || (pK v ts i).2,mJ v (ts.getD i bV)) else ((pK v ts i).1,(pK v ts i).2&&mJ v (ts.getD i bV))):=rfl;have HT0:=zA (HTb.out wr HB.out);obtain⟨gt,e0,-⟩:=HT0.out.cel.at ((zN mT 8 (fun _=>rfl) bV ts i 0 zKZ (by decide)).trans rfl);subst e0
     have HQq:Hid (∀(k:Nat) (u:Value),k<8->(mT (ts.getD i bV))[k]? = some u->wr.cell? ⟨gt,i*8+k,none⟩=some u):=fun k u hk hu=>by
      obtain⟨g',e',c'⟩:=HT0.out.cel.at ((zN mT 8 (fun _=>rfl) bV ts i k zKZ hk).trans hu);obtain rfl:gt=g':=by simpa using e'
      exact c'
     have HH:=zA (zAP wr g v (ts.getD i bV) low (HVb.out wr HB.out) zLC HL4.out);have H00:Hid (i=0->ts.getD 0 bV=ts.getD i bV):=fun h=>by rw[h]
     generalize ts.getD i bV=t at *;generalize ts.getD 0 bV=t0 at *;generalize hH:mJ v t=x at *;have HH0:Hid (i=0->mJ v t0=x):=fun h=>by rw[H00.out h,hH]
     generalize hr1:(pK v ts i).1=s1 at *;generalize hr2:(pK v ts i).2=s2 at *;have HI1:=zA hr1;have HI2:=zA hr2;have q0:=HQq.out 0 _ (by decide) rfl;rw[l9]at q0;have q1:=HQq.out 1 _ (by decide) rfl;have q2:=HQq.out 2 _ (by decide) rfl;have q3:=HQq.out 3 _ (by decide) rfl;have q4:=HQq.out 4 _ (by decide) rfl;have q5:=HQq.out 5 _ (by decide) rfl;have q6:=HQq.out 6 _ (by decide) rfl;have q7:=HQq.out 7 _ (by decide) rfl;clear zLC hH hr1 hr2 HT0 HTo H00;go_wp2_with fail
     refine HH.out.mono ?_;rintro e w4 ⟨rfl,hb4⟩;have HB4:Hid (Below w.heap.size w w4):=HB.out.trans (hb4.mono HB.out.size);have HX4:Hid (w4.heap[w.heap.size]? = some (.cells #[.int .i64 hdI,.bool wh,.slice pa ps.length pc,.slice (some ⟨gt,0,none⟩) ts.length qc] 85 (0,0))):=(hb4.block _ (zJ HX.out)).trans HX.out;have q0:w4.cell? ⟨gt,i*8,none⟩=some (.bool t.or):=(hb4.cell (p:=⟨gt,i*8,none⟩) (yQ q0)).trans q0;have b3:w4.cell? ⟨w.heap.size,3,none⟩=some (.slice (some ⟨gt,0,none⟩) ts.length qc):=zB HX4.out 3;clear hb4 HH q1 q2 q3 q4 q5 q6 q7 HQq;by_cases k0:i=0
     ·subst k0
      have HR0:Hid (pK v ts 1=(false,x)):=HRs.out.trans ((tl rfl).trans (by rw[HH0.out rfl]));have e1:s1=false:=HI1.out.symm;have e2:s2=true:=HI2.out.symm;subst e1 e2;clear HRs HH0 HI1 HI2;go_wp2_with fail
      go_roundw
      case rel=>exact⟨1,by omega,by go_num,by rw[HR0.out],by rw[HR0.out],HX4,HB4⟩
      case measure=>simp[intOf];omega
     ·have k1:(0:Int)<(i:Int):=by omega
      have hrs:=HRs.out;rw[tb k0]at hrs;cases hto:t.or
      ·rw[hto]at q0 hrs
       rw[tb (by decide)]at hrs;have HR2:=zA hrs;clear hrs HRs HH0 HI1 HI2 hto;cases s2
       ·go_wp2_with fail
        go_roundw
        case rel=>exact⟨i+1,by omega,by go_num,by rw[HR2.out],by rw[HR2.out];rfl,HX4,HB4⟩
        case measure=>simp[intOf];omega
       ·go_wp2_with fail
        go_roundw
        case rel=>exact⟨i+1,by omega,by go_num,by rw[HR2.out],by rw[HR2.out];rfl,HX4,HB4⟩
        case measure=>simp[intOf];omega
      ·rw[hto]at q0 hrs
       rw[tl rfl]at hrs;have HR2:=zA hrs;clear hrs HRs HH0 HI1 HI2 hto;cases s1
       ·go_wp2_with fail
        go_roundw
        case rel=>exact⟨i+1,by omega,by go_num,by rw[HR2.out];rfl,by rw[HR2.out],HX4,HB4⟩
        case measure=>simp[intOf];omega
       ·go_wp2_with fail
        go_roundw
        case rel=>exact⟨i+1,by omega,by go_num,by rw[HR2.out];rfl,by rw[HR2.out],HX4,HB4⟩
        case measure=>simp[intOf];omega
    ·obtain rfl:i=ts.length:=by omega
     have ii:¬(ts.length:Int)<(ts.length:Int):=by omega
     have b1:wr.cell? ⟨w.heap.size,1,none⟩=some (.bool wh):=zB HX.out 1;generalize (pK v ts ts.length).1=s1 at *;generalize (pK v ts ts.length).2=s2 at *;cases s1
     ·go_wp2_with fail
      go_ret
      exact⟨zF (by rw[HZ.out];first|rfl|(cases wh <;> cases s2 <;> rfl)),HB.out⟩
     ·go_wp2_with fail
      go_ret
      exact⟨zF (by rw[HZ.out];first|rfl|(cases wh <;> cases s2 <;> rfl)),HB.out⟩
end Go.Proofs.YtnbpdffdnphbeabGreatDoor
