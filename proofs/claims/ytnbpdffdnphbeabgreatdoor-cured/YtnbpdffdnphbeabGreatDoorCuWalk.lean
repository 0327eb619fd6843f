import Derived.Test.YtnbpdffdnphbeabGreatDoorSoLaw
set_option maxHeartbeats 1000000
set_option maxRecDepth 100000
namespace Go.Proofs.YtnbpdffdnphbeabGreatDoor
open Go.RowKit
variable{j i:Nat}{M:yB}
def zGZ(M:yB)(i j:Nat):yB:=⟨M.lo,M.hi,M.rules,XL M.over i j true,M.heads⟩
theorem QT{G:List Bool}(h:Cc M G i j=true):(M.rules.getD i lU).head=(M.rules.getD j lU).head/\gA G i j=false:=by
 unfold Cc at h;rw[mc,mc,mc,mj,mj]at h;exact⟨h.2.1,by simpa using h.2.2.1⟩
theorem zFN(hi:i<M.rules.length):(M.rules.map vR.head).getD i 0=(M.rules.getD i lU).head:=by simp[List.getD,hi]
theorem zGY(h:yH M)(hij:i<j)(hj:j<M.rules.length)(hh:(M.rules.getD i lU).head=(M.rules.getD j lU).head):yH (zGZ M i j):=by
 refine⟨h.nums,h.few,h.heads,h.rules,fun a b hab=>?_⟩;unfold zGZ at hab;simp only[XL]at hab;split at hab
 ·rename_i e
  obtain⟨rfl,rfl⟩:=e;exact⟨hij,hj,by show (M.rules.map vR.head).getD a 0=(M.rules.map vR.head).getD b 0;rw[zFN (by omega),zFN hj,hh]⟩
 ·exact h.over a b hab
theorem jI.setO{w:World}{g:Nat}(h:jI w g M)(hi:i<8)(hj:j<8):jI (w.setCell ⟨g,7+i*8+j,none⟩ (.bool true)) g (zGZ M i j):=by
 obtain⟨ra,ha,rc,hc,xs,h1,h2,h3,h4,h5⟩:=h.mem;obtain⟨cs,m1,-⟩:=h2.blk;exact⟨ra,ha,rc,hc,xs,h1,h2.setO i j hi hj true,h3.set m1 (by decide),fun x hx=>(h4 x hx).set m1,h5.set m1 (by decide)⟩
def VF(M:yB):Nat:=((List.range 64).filter fun q=>M.over (q/8) (q%8)).length
theorem Di{α:Type}{p q:α->Bool}(l:List α)(h:∀x∈l,p x=true->q x=true):(l.filter p).length<=(l.filter q).length:=by
 induction l with
 | nil=>exact tg _
 | cons x r ih =>
   have hr:=ih fun y hy=>h y (pt _ hy);have hx:=h x (by simp);cases hp:p x
   ·cases hq:q x
    ·rw[dm (by rw[hp];decide),dm (by rw[hq];decide)];exact hr
    ·rw[dm (by rw[hp];decide),dn hq,tz];omega
   ·rw[dn hp,dn (hx hp),tz,tz];omega
theorem zEQ{α:Type}{p q:α->Bool}{a:α}(l:List α)(h:∀x∈l,p x=true->q x=true)(ha:a∈l)(hp:p a=false)(hq:q a=true):(l.filter p).length+1<=(l.filter q).length:=by
 induction l with
 | nil=>cases ha
 | cons x r ih =>
   have hm:∀y∈r,p y=true->q y=true:=fun y hy=>h y (pt _ hy);rcases pf.1 ha with rfl|ha
   ·have:=Di r hm
    rw[dm (by rw[hp];decide),dn hq,tz];omega
   ·have hr:=ih hm ha
    have hx:=h x (by simp);cases hpx:p x
    ·cases hqx:q x
     ·rw[dm (by rw[hpx];decide),dm (by rw[hqx];decide)];exact hr
     ·rw[dm (by rw[hpx];decide),dn hqx,tz];omega
    ·rw[dn hpx,dn (hx hpx),tz,tz];omega
theorem Dt(hi:i<8)(hj:j<8)(h:gA (zS (qV M)) i j=false):M.over i j=false:=by
 cases ho:M.over i j
 ·rfl
 ·have h1:Kl (qV M) i j:=⟨hi,hj,by rw[Jw M hi hj];exact ho⟩
  have h2:=((aP (cB M) i j).2 (TC.one h1)).2.2;rw[h]at h2;cases h2
theorem zF0(hi:i<8)(hj:j<8)(h:M.over i j=false):VF M+1<=VF (zGZ M i j):=by
 unfold VF;refine zEQ (a:=i*8+j) (List.range 64) (fun q _ hq=>?_) (md.2 (by omega)) ?_ ?_
 ·show XL M.over i j true (q/8) (q%8)=true
  unfold XL;split
  ·rfl
  ·exact hq
 ·rw[show (i*8+j)/8=i by omega,show (i*8+j)%8=j by omega];exact h
 ·show XL M.over i j true ((i*8+j)/8) ((i*8+j)%8)=true
  rw[show (i*8+j)/8=i by omega,show (i*8+j)%8=j by omega];unfold XL;rw[tr ⟨rfl,rfl⟩]
theorem vo:∀i,i<8->∀j,j<8->i<j->((List.range 64).filter fun q=>decide (q/8<q%8) && !(decide (q=i*8+j))).length=27:=by decide +kernel
theorem zAF(h:yH M)(hij:i<j)(hj:j<M.rules.length)(ho:M.over i j=false):VF M<=27:=by
 have h8:=h.few;unfold VF;rw[<-vo i (by omega) j (by omega) hij];refine Di _ fun q hq hp=>?_;have h1:=h.over _ _ hp;rw[ty h1.1,ld];by_cases e:q=i*8+j
 ·rw[e,show (i*8+j)/8=i by omega,show (i*8+j)%8=j by omega,ho]at hp
  cases hp
 ·rw[tu e];rfl
theorem zI4(h:yH M)(hc:zFC M):VF M<=27:=by
 have h8:=h.few;obtain⟨i,j,h1,h2,h3,-⟩:=hc;exact zAF h h1 h2 (Dt (by omega) (by omega) (QT h3).2)
theorem zBJ(w:World)(la wa ra:Option Addr)(ln lc wn wk rn rc:Nat)(hd:Nat->Int)(hL:pK w la ln)(hW:pK w wa wn)(hR:XD w ra rn hd)(hT:gU w)
 (hLd:∀M,yH M->∀w',Below w.heap.size w w'->Calls Tryz.prog 27 #[.string ⟨(Yp (xW M false)).toArray⟩,.bool true] w' fun e w''=>zBD M w' w'' e)
 (hCl:∀M,yH M->∀w',Below w.heap.size w w'->Calls Tryz.prog 29 #[.string ⟨(Yp (xW M false)).toArray⟩] w' fun e w''=>Kg M w' w'' e) :
 Calls Tryz.prog 7 #[.agg #[.slice la ln lc,.slice wa wn wk,.slice ra rn rc]] w fun e w'=>e=.returned (.bool true)/\Below w.heap.size w w':=by
 have HBd:=zA (fun w' (hb:Below w.heap.size w w')=>QK w' la wa ra ln lc wn wk rn rc hd (hL.below hb) (hW.below hb) (hR.below hb));have HTb:=zA (fun w' (hb:Below w.heap.size w w')=>hT.below hb);have HLd:=zA hLd;have HCl:=zA hCl;clear hL hW hR hT hLd hCl
 go_enter Tryz.func7,Tryz.ntmps7
 go_upto_region 1 with fail
 have HB0:Hid (Below w.heap.size w (w.alloc (.cells #[.slice la ln lc,.slice wa wn wk,.slice ra rn rc] 25))):=fe (tg _) _;have b0:(w.alloc (.cells #[.slice la ln lc,.slice wa wn wk,.slice ra rn rc] 25)).cell? ⟨w.heap.size,0,none⟩=some (.slice la ln lc):=zC (zH _ _) 0;have b1:(w.alloc (.cells #[.slice la ln lc,.slice wa wn wk,.slice ra rn rc] 25)).cell? ⟨w.heap.size,1,none⟩=some (.slice wa wn wk):=zC (zH _ _) 1;have b2:(w.alloc (.cells #[.slice la ln lc,.slice wa wn wk,.slice ra rn rc] 25)).cell? ⟨w.heap.size,2,none⟩=some (.slice ra rn rc):=zC (zH _ _) 2;generalize w.alloc (.cells #[.slice la ln lc,.slice wa wn wk,.slice ra rn rc] 25)=w0 at *;go_wp2_with fail
 refine(HBd.out w0 HB0.out).mono ?_;rintro e w1 ⟨g,M0,rfl,hO,hM,hb1,hg0⟩;have HB1:Hid (Below w.heap.size w w1):=HB0.out.trans (hb1.mono HB0.out.size);have hgw:w.heap.size<=g:=p8 HB0.out.size hg0;have HO0:=zA hO;have HM0:=zA hM;clear hO hM hb1 hg0 HBd b0 b1 b2 HB0;go_wp2_with fail
 go_loopw [4] (fun nv wr=>∃(n:Nat) (M:yB),n<=28/\nv=.int .i64 (n:Int)/\Hid (yH M)/\Hid (jI wr g M)/\Hid (n<=VF M)/\Hid (Below w.heap.size w wr)) (fun nv _=>28-(intOf nv).toNat)
 case atStart=>exact⟨0,M0,p7 _,rfl,HO0,HM0,zA (p7 _),HB1⟩
 case round =>
  clear HO0 HM0 HB1;obtain⟨n,M,hn,rfl,HO,HM,HN,HB⟩:=hrel;have c1:(n:Int)<=28:=by omega
  have HMb:=zA (fun w' (hb:Below wr.heap.size wr w')=>HM.out.below hb);have HTx:=zA (Dj wr g M HM.out HO.out (HTb.out wr HB.out));have HLd1:=zA (HLd.out M HO.out);have HCl1:=zA (HCl.out M HO.out);have HFw:Hid (zFC M->n+1<=28):=fun h=>by have:=zI4 HO.out h;have:=HN.out;omega
  generalize Yp (xW M false)=td at *;go_wp2_with fail
  refine HTx.out.mono ?_;rintro e w2 ⟨rfl,hb2⟩;have HB2:Hid (Below w.heap.size w w2):=HB.out.trans (hb2.mono HB.out.size);have H12:=zA hb2;clear hb2 HTx;go_wp2_with fail
  refine(HCl1.out w2 HB2.out).mono ?_;rintro e w3 (⟨rfl,hn9,hb3⟩|⟨hy,hsh⟩)
  ·have HB3:Hid (Below w.heap.size w w3):=HB2.out.trans (hb3.mono HB2.out.size)
   clear hb3;go_wp2_with fail
   refine(HLd1.out w3 HB3.out).mono ?_;rintro e w4 ⟨hb4,⟨b,rfl,-⟩|⟨rfl,hy⟩⟩
   ·have HB4:Hid (Below w.heap.size w w4):=HB3.out.trans (hb4.mono HB3.out.size)
    clear hb4;go_wp2_with fail
    go_ret
    exact⟨rfl,HB4.out⟩
   ·exact(hn9 hy).elim
  ·obtain⟨i1,j1,nm1,z1,la1,sa1,sc1,rfl,-,-,-,-,-,hb3⟩:=hsh
   have HB3:Hid (Below w.heap.size w w3):=HB2.out.trans (hb3.mono HB2.out.size);have H13:Hid (Below wr.heap.size wr w3):=H12.out.trans (hb3.mono H12.out.size);have HY:=zA hy
   have HShow:Hid (∀w',Below w.heap.size w w'->Calls Tryz.prog 29 #[.string ⟨td.toArray⟩] w' fun e w''=>zB2 M w' w'' e):=fun w' hb=>(HCl1.out w' hb).mono fun e w'' h=>by
    rcases h with ⟨-,hn,-⟩|⟨-,h⟩
    ·exact absurd HY.out hn
    ·exact h
   have HSh:=zA (V7 w3 g M td (HMb.out w3 H13.out) HO.out (HShow.out w3 HB3.out));clear hb3 hy;go_wp2_with fail
   refine HSh.out.mono ?_;rintro e w4 ⟨rfl,hb4⟩;have HB4:Hid (Below w.heap.size w w4):=HB3.out.trans (hb4.mono HB3.out.size);have H14:Hid (Below wr.heap.size wr w4):=H13.out.trans (hb4.mono H13.out.size);clear hb4 HSh;go_wp2_with fail
   refine(HShow.out w4 HB4.out).mono ?_;rintro e w5 ⟨i,j,nm,z,la,sa,sc,rfl,⟨hij,hjn,hap⟩,hla,-,-,-,hb5⟩;have HB5:Hid (Below w.heap.size w w5):=HB4.out.trans (hb5.mono HB4.out.size);have H15:Hid (Below wr.heap.size wr w5):=H14.out.trans (hb5.mono H14.out.size);obtain⟨gl,e0,l0⟩:=hla.at (j:=0) rfl;obtain⟨gl',e1,l1⟩:=hla.at (j:=1) rfl;subst e0;obtain rfl:gl=gl':=by simpa using e1
   have h8:=HO.out.few;have HN1:=zA (fun w' (hb:Below wr.heap.size wr w')=>dC w' g M i (HMb.out w' hb) HO.out (by omega));have HN2:=zA (fun w' (hb:Below wr.heap.size wr w')=>dC w' g M j (HMb.out w' hb) HO.out hjn);have HL1:Hid (∀w',Below w5.heap.size w5 w'->w'.cell? ⟨gl,1,none⟩=some (.string ⟨(xL 114 j).toArray⟩)):=fun w' hb=>(hb.cell (p:=⟨gl,1,none⟩) (zY l1)).trans l1
   have HOn:Hid (yH (zGZ M i j)/\n+1<=VF (zGZ M i j)):=by
    obtain⟨q1,q2⟩:=QT hap;have:=zF0 (M:=M) (i:=i) (j:=j) (by omega) (by omega) (Dt (by omega) (by omega) q2);have:=HN.out;exact⟨zGY HO.out hij hjn q1,by omega⟩
   have hn28:=HFw.out HY.out;have i8:(i:Int)<8:=by omega
   have j8:(j:Int)<8:=by omega
   have i0:¬(i:Int)<0:=by omega
   have j0:¬(j:Int)<0:=by omega
   clear hb5 hla e1 hap;generalize xL 114 i=ni at *;generalize xL 114 j=nj at *;go_wp2_with fail
   refine(HN1.out _ H15.out).mono ?_;rintro e w6 ⟨rfl,hb6⟩;have HB6:Hid (Below w.heap.size w w6):=HB5.out.trans (hb6.mono HB5.out.size);have H16:Hid (Below wr.heap.size wr w6):=H15.out.trans (hb6.mono H15.out.size);have l1:=HL1.out w6 hb6;clear hb6 l0 HN1;go_wp2_with fail
   refine(HN2.out _ H16.out).mono ?_;rintro e w7 ⟨rfl,hb7⟩;have HB7:Hid (Below w.heap.size w w7):=HB6.out.trans (hb7.mono HB6.out.size);have H17:Hid (Below wr.heap.size wr w7):=H16.out.trans (hb7.mono H16.out.size);clear hb7 l1 HN2 HL1;have HM7:=zA (HMb.out w7 H17.out);obtain⟨rv,hv,hmad⟩:=HM7.out.mad;have fz:=hmad.free (7+i*8+j);have m0:=hmad.cells.2.2.2.1 i j (by omega) (by omega);have zKA:=zA (HM7.out.setO (i:=i) (j:=j) (by omega) (by omega));have HBs:Hid (Below w.heap.size w (w7.setCell ⟨g,7+i*8+j,none⟩ (.bool true))):=HB7.out.setCell (p:=⟨g,7+i*8+j,none⟩) hgw _;clear hmad;go_wp2_with fail
   go_roundw
   case rel=>exact⟨n+1,zGZ M i j,by omega,by go_num,zA HOn.out.1,zKA,zA HOn.out.2,HBs⟩
   case measure=>simp[intOf];omega
theorem GI(w:World)(la wa ra:Option Addr)(ln lc wn wk rn rc:Nat)(hd:Nat->Int)(hL:pK w la ln)(hW:pK w wa wn)(hR:XD w ra rn hd)(hT:gU w) :
 Calls Tryz.prog 7 #[.agg #[.slice la ln lc,.slice wa wn wk,.slice ra rn rc]] w fun e w'=>e=.returned (.bool true)/\Below w.heap.size w w' :=
 zBJ w la wa ra ln lc wn wk rn rc hd hL hW hR hT
  (fun _ h w' _=>qg h false (ZT h false) (aX h false) w')
  (fun _ h w' _=>Dq h false (ZT h false) (aX h false) w')
end Go.Proofs.YtnbpdffdnphbeabGreatDoor
