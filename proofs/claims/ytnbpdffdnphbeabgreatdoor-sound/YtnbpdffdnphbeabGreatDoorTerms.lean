import Derived.Test.YtnbpdffdnphbeabGreatDoorComp
set_option maxHeartbeats 1000000
namespace Go.Proofs.YtnbpdffdnphbeabGreatDoor
open Go.RowKit
theorem Cz(R g cap:Nat)(P:List PT)(G:Nat)(root:Int)(n:Nat)(hit:XH R g cap P G root n):QX R g cap P G root n:=by
 intro w q d zK3 zK4 hn;have hGl:=zK3.gd.lt;have HI:=zA hit;have zKD:=zA zK3;have HOk:=zA zK4;have HF:Hid (bZ P n q d=kQ P (fun q=>yJ P n q d) xT 2 P.length (yJ P n q d).1 (yJ P n q d).2):=rfl;generalize bZ P n q d=F at *;clear hit zK3 zK4
 go_enter Tryz.func188,Tryz.ntmps188
 go_wp2_with fail
 refine(HI.out w q d zKD.out HOk.out hn).mono ?_;rintro e w1 ⟨rfl,hi1,hk1,hg1⟩;have HIn1:=zA hi1;have HK1:=zA hk1;have HG1:=zA hg1;generalize yJ P n q d=x at *;obtain⟨l0,q1⟩:=x;simp only at HF HIn1 HG1;clear hi1 hk1 hg1;go_wp2_with fail
 go_loopw [7] (fun lv wr=>∃(k:Nat) (l:Int) (q2:GS),lv=.int .i64 l/\Hid (Zn wr R g cap P G root q2)/\Hid (zB G R w wr)/\Hid (iV P q q2)/\Hid (P.length-q2.s.1<=k)/\Hid (kQ P (fun q=>yJ P n q d) xT 2 k l q2=F)) (fun _ wr=>CJ P.length R wr)
 case atStart=>exact⟨P.length,l0,q1,rfl,HIn1,HK1,HG1,zA (by omega),zA HF.out.symm⟩
 case round =>
  obtain⟨k,l,q2,rfl,HIr,HKr,HGr,Hk,HE⟩:=hrel;clear HF HIn1 HK1 HG1;have hat:=HIr.out.ctx.at';have HM:=zA HIr.out.meas;have hGr:=HIr.out.gd.lt;obtain⟨k,rfl⟩:∃j,k=j+1:=⟨k-1,by have:=Hk.out;omega⟩;have hE:=HE.out;rw[kQ]at hE;go_wp2_with fail
  refine(xV R g cap P _ q2.s xT HIr.out.ctx).mono ?_;rintro e w2 ⟨rfl,hc2,hk2⟩;have hi2:=HIr.out.read hc2 hk2;have HK2:Hid (zB G R w w2):=HKr.out.trans (hk2.of_size (pb hGr));clear hc2 hk2 HE;cases hs:(zD P xT q2.s).1
  ·rw[hs]at hE
   have HE2:=zA hE;have HI2:=zA hi2;have HGo:Hid (iV P q (q2.to (zD P xT q2.s).2)):=⟨p8 HGr.out.mono (xD P _ q2.s),p8 (UK (xD P _ q2.s)) HGr.out.pot',HGr.out.t0,HGr.out.t1⟩;clear hE hi2 hs;go_wp2_with fail
   go_ret
   obtain rfl:=HE2.out;exact⟨rfl,HI2.out,HK2.out,HGo.out⟩
  ·rw[hs]at hE
   have hst:=uW hs;have hps:=YD hs hat;have hpo:=HGr.out.pot';have hro:=HOk.out.room;have hok2:zBV P (q2.to (zD P xT q2.s).2) d:=⟨HGr.out.t0,HGr.out.t1,by omega,HOk.out.d0,by have h1:=HOk.out.d1;have h2:=HGr.out.mono;show d<=(((zD P xT q2.s).2.1:Nat):Int);rw[hst];omega⟩;have hn2:P.length-(q2.to (zD P xT q2.s).2).s.1<=n:=by show P.length-(zD P xT q2.s).2.1<=n;rw[hst];have h2:=HGr.out.mono;omega
   have hs1:(q2.to (zD P xT q2.s).2).s.1=q2.s.1+1:=hst;generalize q2.to (zD P xT q2.s).2=q3 at *;have HI3:=zA (HI.out w2 q3 d hi2 hok2 hn2);have hG2:=hi2.gd.lt;have HE2:=zA hE;clear hE hi2 hs hst hok2 hn2;go_wp2_with fail
   refine HI3.out.mono ?_;rintro e w3 ⟨rfl,hi3,hk3,hg3⟩;have HI4:=zA hi3;have HK3:Hid (zB G R w w3):=HK2.out.trans hk3;have HG3:=zA hg3;generalize yJ P n q3 d=y at *;obtain⟨r,q4⟩:=y;simp only at HE2 HI4 HG3;have hp4:=HG3.out.pot';have hnd4:q4.nd.length<=Zu P q4:=by unfold Zu;omega
   have hnd:q4.nd.length<=10000:=by omega
   clear hi3 hk3 hg3 HI3;go_wp2_with fail
   refine(VU w3 G q4.nd root q4.tests q4.dep ⟨2,l,r,[],[],[],0⟩ HI4.out.gd hnd).mono ?_;rintro e w4 ⟨rfl,hgd4,hb4⟩;have HI5:=zA (HI4.out.added hgd4 hb4);have HK4:Hid (zB G R w w4):=HK3.out.trans (zB.of_belowG hb4);have hmo:=HG3.out.mono;have HGo:Hid (iV P q (q4.add ⟨2,l,r,[],[],[],0⟩)):=⟨by have h1:=HGr.out.mono;show q.s.1<=q4.s.1;omega,by show (q4.nd++[_]).length+2*(P.length-q4.s.1)<=_;rw[tq,mh];unfold Zu at hp4 hps hpo ⊢;omega,HG3.out.t0,by show q4.tests<=((q4.nd++[_]).length:Int);rw[tq];have:=HG3.out.t1;omega⟩;clear hgd4 hb4;go_wp2_with fail
   go_roundw
   case rel=>exact⟨k,_,_,rfl,HI5,HK4,HGo,zA (by have h1:=Hk.out;show P.length-q4.s.1<=k;omega),HE2⟩
   case measure=>rw[HM.out,HI5.out.meas];show P.length-q4.s.1<_;omega
theorem zFR(R g cap:Nat)(P:List PT)(G:Nat)(root:Int)(n:Nat)(hit:QX R g cap P G root n):Kj R g cap P G root n:=by
 intro w q d zK3 zK4 hn;have hGl:=zK3.gd.lt;have HI:=zA hit;have zKD:=zA zK3;have HOk:=zA zK4;have HF:Hid (wF P n q d=kQ P (fun q=>bZ P n q d) jU 1 P.length (bZ P n q d).1 (bZ P n q d).2):=rfl;generalize wF P n q d=F at *;clear hit zK3 zK4
 go_enter Tryz.func182,Tryz.ntmps182
 go_wp2_with fail
 refine(HI.out w q d zKD.out HOk.out hn).mono ?_;rintro e w1 ⟨rfl,hi1,hk1,hg1⟩;have HIn1:=zA hi1;have HK1:=zA hk1;have HG1:=zA hg1;generalize bZ P n q d=x at *;obtain⟨l0,q1⟩:=x;simp only at HF HIn1 HG1;clear hi1 hk1 hg1;go_wp2_with fail
 go_loopw [7] (fun lv wr=>∃(k:Nat) (l:Int) (q2:GS),lv=.int .i64 l/\Hid (Zn wr R g cap P G root q2)/\Hid (zB G R w wr)/\Hid (iV P q q2)/\Hid (P.length-q2.s.1<=k)/\Hid (kQ P (fun q=>bZ P n q d) jU 1 k l q2=F)) (fun _ wr=>CJ P.length R wr)
 case atStart=>exact⟨P.length,l0,q1,rfl,HIn1,HK1,HG1,zA (by omega),zA HF.out.symm⟩
 case round =>
  obtain⟨k,l,q2,rfl,HIr,HKr,HGr,Hk,HE⟩:=hrel;clear HF HIn1 HK1 HG1;have hat:=HIr.out.ctx.at';have HM:=zA HIr.out.meas;have hGr:=HIr.out.gd.lt;obtain⟨k,rfl⟩:∃j,k=j+1:=⟨k-1,by have:=Hk.out;omega⟩;have hE:=HE.out;rw[kQ]at hE;go_wp2_with fail
  refine(xV R g cap P _ q2.s jU HIr.out.ctx).mono ?_;rintro e w2 ⟨rfl,hc2,hk2⟩;have hi2:=HIr.out.read hc2 hk2;have HK2:Hid (zB G R w w2):=HKr.out.trans (hk2.of_size (pb hGr));clear hc2 hk2 HE;cases hs:(zD P jU q2.s).1
  ·rw[hs]at hE
   have HE2:=zA hE;have HI2:=zA hi2;have HGo:Hid (iV P q (q2.to (zD P jU q2.s).2)):=⟨p8 HGr.out.mono (xD P _ q2.s),p8 (UK (xD P _ q2.s)) HGr.out.pot',HGr.out.t0,HGr.out.t1⟩;clear hE hi2 hs;go_wp2_with fail
   go_ret
   obtain rfl:=HE2.out;exact⟨rfl,HI2.out,HK2.out,HGo.out⟩
  ·rw[hs]at hE
   have hst:=uW hs;have hps:=YD hs hat;have hpo:=HGr.out.pot';have hro:=HOk.out.room;have hok2:zBV P (q2.to (zD P jU q2.s).2) d:=⟨HGr.out.t0,HGr.out.t1,by omega,HOk.out.d0,by have h1:=HOk.out.d1;have h2:=HGr.out.mono;show d<=(((zD P jU q2.s).2.1:Nat):Int);rw[hst];omega⟩;have hn2:P.length-(q2.to (zD P jU q2.s).2).s.1<=n:=by show P.length-(zD P jU q2.s).2.1<=n;rw[hst];have h2:=HGr.out.mono;omega
   have hs1:(q2.to (zD P jU q2.s).2).s.1=q2.s.1+1:=hst;generalize q2.to (zD P jU q2.s).2=q3 at *;have HI3:=zA (HI.out w2 q3 d hi2 hok2 hn2);have hG2:=hi2.gd.lt;have HE2:=zA hE;clear hE hi2 hs hst hok2 hn2;go_wp2_with fail
   refine HI3.out.mono ?_;rintro e w3 ⟨rfl,hi3,hk3,hg3⟩;have HI4:=zA hi3;have HK3:Hid (zB G R w w3):=HK2.out.trans hk3;have HG3:=zA hg3;generalize bZ P n q3 d=y at *;obtain⟨r,q4⟩:=y;simp only at HE2 HI4 HG3;have hp4:=HG3.out.pot';have hnd4:q4.nd.length<=Zu P q4:=by unfold Zu;omega
   have hnd:q4.nd.length<=10000:=by omega
   clear hi3 hk3 hg3 HI3;go_wp2_with fail
   refine(VU w3 G q4.nd root q4.tests q4.dep ⟨1,l,r,[],[],[],0⟩ HI4.out.gd hnd).mono ?_;rintro e w4 ⟨rfl,hgd4,hb4⟩;have HI5:=zA (HI4.out.added hgd4 hb4);have HK4:Hid (zB G R w w4):=HK3.out.trans (zB.of_belowG hb4);have hmo:=HG3.out.mono;have HGo:Hid (iV P q (q4.add ⟨1,l,r,[],[],[],0⟩)):=⟨by have h1:=HGr.out.mono;show q.s.1<=q4.s.1;omega,by show (q4.nd++[_]).length+2*(P.length-q4.s.1)<=_;rw[tq,mh];unfold Zu at hp4 hps hpo ⊢;omega,HG3.out.t0,by show q4.tests<=((q4.nd++[_]).length:Int);rw[tq];have:=HG3.out.t1;omega⟩;clear hgd4 hb4;go_wp2_with fail
   go_roundw
   case rel=>exact⟨k,_,_,rfl,HI5,HK4,HGo,zA (by have h1:=Hk.out;show P.length-q4.s.1<=k;omega),HE2⟩
   case measure=>rw[HM.out,HI5.out.meas];show P.length-q4.s.1<_;omega
end Go.Proofs.YtnbpdffdnphbeabGreatDoor
