import Derived.Test.YtnbpdffdnphbeabGreatDoorComp
set_option maxHeartbeats 1000000
namespace Go.Proofs.YtnbpdffdnphbeabGreatDoor
open Go.RowKit
variable{dep tests:Int}{nd:List zT}{w:World}(R g cap:Nat)(P:List PT)(G:Nat)(root:Int)(n:Nat)
theorem CP(hit:Qd R g cap P G root n):Jt R g cap P G root n:=by
 intro w q d zL9 zLC hn;have hGl:=zL9.gd.lt;have HI:=zA hit;have zLS:=zA zL9;have HOk:=zA zLC;have HF:Hid (cQ P n q d=mS P (fun q=>xA P n q d) dR 2 P.length (xA P n q d).1 (xA P n q d).2):=rfl;generalize cQ P n q d=F at *;clear hit zL9 zLC
 go_enter Tryz.func188,Tryz.ntmps188
 go_wp2_with fail
 refine(HI.out w q d zLS.out HOk.out hn).mono ?_;rintro e w1 ⟨rfl,hi1,hk1,hg1⟩;have HIn1:=zA hi1;have HK1:=zA hk1;have HG1:=zA hg1;generalize xA P n q d=x at *;obtain⟨l0,q1⟩:=x;simp only at HF HIn1 HG1;clear hi1 hk1 hg1;go_wp2_with fail
 go_loopw [7] (fun lv wr=>∃(k:Nat) (l:Int) (q2:GS),lv=.int .i64 l/\Hid (ZF wr R g cap P G root q2)/\Hid (zC G R w wr)/\Hid (wR P q q2)/\Hid (P.length-q2.s.1<=k)/\Hid (mS P (fun q=>xA P n q d) dR 2 k l q2=F)) (fun _ wr=>Dp P.length R wr)
 case atStart=>exact⟨P.length,l0,q1,rfl,HIn1,HK1,HG1,zA (by omega),zA HF.out.symm⟩
 case round =>
  obtain⟨k,l,q2,rfl,HIr,HKr,HGr,Hk,HE⟩:=hrel;clear HF HIn1 HK1 HG1;have hat:=HIr.out.ctx.at';have HM:=zA HIr.out.meas;have hGr:=HIr.out.gd.lt;obtain⟨k,rfl⟩:∃j,k=j+1:=⟨k-1,by have:=Hk.out;omega⟩;have hE:=HE.out;rw[mS]at hE;go_wp2_with fail
  refine(xU R g cap P _ q2.s dR HIr.out.ctx).mono ?_;rintro e w2 ⟨rfl,hc2,hk2⟩;have hi2:=HIr.out.read hc2 hk2;have HK2:Hid (zC G R w w2):=HKr.out.trans (hk2.of_size (ph hGr));clear hc2 hk2 HE;cases hs:(zD P dR q2.s).1
  ·rw[hs]at hE
   have HE2:=zA hE;have HI2:=zA hi2;have HGo:Hid (wR P q (q2.to (zD P dR q2.s).2)):=⟨p8 HGr.out.mono (xV P _ q2.s),p8 (Bo (xV P _ q2.s)) HGr.out.pot',HGr.out.t0,HGr.out.t1⟩;clear hE hi2 hs;go_wp2_with fail
   go_ret
   obtain rfl:=HE2.out;exact⟨rfl,HI2.out,HK2.out,HGo.out⟩
  ·rw[hs]at hE
   have zLO:=kG hs;have hps:=YR hs hat;have hpo:=HGr.out.pot';have hro:=HOk.out.room;have hok2:zC5 P (q2.to (zD P dR q2.s).2) d:=⟨HGr.out.t0,HGr.out.t1,by omega,HOk.out.d0,by have h1:=HOk.out.d1;have h2:=HGr.out.mono;show d<=(((zD P dR q2.s).2.1:Nat):Int);rw[zLO];omega⟩;have hn2:P.length-(q2.to (zD P dR q2.s).2).s.1<=n:=by show P.length-(zD P dR q2.s).2.1<=n;rw[zLO];have h2:=HGr.out.mono;omega
   have hs1:(q2.to (zD P dR q2.s).2).s.1=q2.s.1+1:=zLO;generalize q2.to (zD P dR q2.s).2=q3 at *;have HI3:=zA (HI.out w2 q3 d hi2 hok2 hn2);have hG2:=hi2.gd.lt;have HE2:=zA hE;clear hE hi2 hs zLO hok2 hn2;go_wp2_with fail
   refine HI3.out.mono ?_;rintro e w3 ⟨rfl,hi3,hk3,hg3⟩;have HI4:=zA hi3;have HK3:Hid (zC G R w w3):=HK2.out.trans hk3;have HG3:=zA hg3;generalize xA P n q3 d=y at *;obtain⟨r,q4⟩:=y;simp only at HE2 HI4 HG3;have hp4:=HG3.out.pot';have hnd4:q4.nd.length<=ZM P q4:=by unfold ZM;omega
   have hnd:q4.nd.length<=10000:=by omega
   clear hi3 hk3 hg3 HI3;go_wp2_with fail
   refine(Ut w3 G q4.nd root q4.tests q4.dep ⟨2,l,r,[],[],[],0⟩ HI4.out.gd hnd).mono ?_;rintro e w4 ⟨rfl,hgd4,hb4⟩;have HI5:=zA (HI4.out.added hgd4 hb4);have HK4:Hid (zC G R w w4):=HK3.out.trans (zC.of_belowG hb4);have hmo:=HG3.out.mono;have HGo:Hid (wR P q (q4.add ⟨2,l,r,[],[],[],0⟩)):=⟨by have h1:=HGr.out.mono;show q.s.1<=q4.s.1;omega,by show (q4.nd++[_]).length+2*(P.length-q4.s.1)<=_;rw[tm,mh];unfold ZM at hp4 hps hpo ⊢;omega,HG3.out.t0,by show q4.tests<=((q4.nd++[_]).length:Int);rw[tm];have:=HG3.out.t1;omega⟩;clear hgd4 hb4;go_wp2_with fail
   go_roundw
   case rel=>exact⟨k,_,_,rfl,HI5,HK4,HGo,zA (by have h1:=Hk.out;show P.length-q4.s.1<=k;omega),HE2⟩
   case measure=>rw[HM.out,HI5.out.meas];show P.length-q4.s.1<_;omega
theorem zGQ(hit:Jt R g cap P G root n):Ky R g cap P G root n:=by
 intro w q d zL9 zLC hn;have hGl:=zL9.gd.lt;have HI:=zA hit;have zLS:=zA zL9;have HOk:=zA zLC;have HF:Hid (YU P n q d=mS P (fun q=>cQ P n q d) Qi 1 P.length (cQ P n q d).1 (cQ P n q d).2):=rfl;generalize YU P n q d=F at *;clear hit zL9 zLC
 go_enter Tryz.func182,Tryz.ntmps182
 go_wp2_with fail
 refine(HI.out w q d zLS.out HOk.out hn).mono ?_;rintro e w1 ⟨rfl,hi1,hk1,hg1⟩;have HIn1:=zA hi1;have HK1:=zA hk1;have HG1:=zA hg1;generalize cQ P n q d=x at *;obtain⟨l0,q1⟩:=x;simp only at HF HIn1 HG1;clear hi1 hk1 hg1;go_wp2_with fail
 go_loopw [7] (fun lv wr=>∃(k:Nat) (l:Int) (q2:GS),lv=.int .i64 l/\Hid (ZF wr R g cap P G root q2)/\Hid (zC G R w wr)/\Hid (wR P q q2)/\Hid (P.length-q2.s.1<=k)/\Hid (mS P (fun q=>cQ P n q d) Qi 1 k l q2=F)) (fun _ wr=>Dp P.length R wr)
 case atStart=>exact⟨P.length,l0,q1,rfl,HIn1,HK1,HG1,zA (by omega),zA HF.out.symm⟩
 case round =>
  obtain⟨k,l,q2,rfl,HIr,HKr,HGr,Hk,HE⟩:=hrel;clear HF HIn1 HK1 HG1;have hat:=HIr.out.ctx.at';have HM:=zA HIr.out.meas;have hGr:=HIr.out.gd.lt;obtain⟨k,rfl⟩:∃j,k=j+1:=⟨k-1,by have:=Hk.out;omega⟩;have hE:=HE.out;rw[mS]at hE;go_wp2_with fail
  refine(xU R g cap P _ q2.s Qi HIr.out.ctx).mono ?_;rintro e w2 ⟨rfl,hc2,hk2⟩;have hi2:=HIr.out.read hc2 hk2;have HK2:Hid (zC G R w w2):=HKr.out.trans (hk2.of_size (ph hGr));clear hc2 hk2 HE;cases hs:(zD P Qi q2.s).1
  ·rw[hs]at hE
   have HE2:=zA hE;have HI2:=zA hi2;have HGo:Hid (wR P q (q2.to (zD P Qi q2.s).2)):=⟨p8 HGr.out.mono (xV P _ q2.s),p8 (Bo (xV P _ q2.s)) HGr.out.pot',HGr.out.t0,HGr.out.t1⟩;clear hE hi2 hs;go_wp2_with fail
   go_ret
   obtain rfl:=HE2.out;exact⟨rfl,HI2.out,HK2.out,HGo.out⟩
  ·rw[hs]at hE
   have zLO:=kG hs;have hps:=YR hs hat;have hpo:=HGr.out.pot';have hro:=HOk.out.room;have hok2:zC5 P (q2.to (zD P Qi q2.s).2) d:=⟨HGr.out.t0,HGr.out.t1,by omega,HOk.out.d0,by have h1:=HOk.out.d1;have h2:=HGr.out.mono;show d<=(((zD P Qi q2.s).2.1:Nat):Int);rw[zLO];omega⟩;have hn2:P.length-(q2.to (zD P Qi q2.s).2).s.1<=n:=by show P.length-(zD P Qi q2.s).2.1<=n;rw[zLO];have h2:=HGr.out.mono;omega
   have hs1:(q2.to (zD P Qi q2.s).2).s.1=q2.s.1+1:=zLO;generalize q2.to (zD P Qi q2.s).2=q3 at *;have HI3:=zA (HI.out w2 q3 d hi2 hok2 hn2);have hG2:=hi2.gd.lt;have HE2:=zA hE;clear hE hi2 hs zLO hok2 hn2;go_wp2_with fail
   refine HI3.out.mono ?_;rintro e w3 ⟨rfl,hi3,hk3,hg3⟩;have HI4:=zA hi3;have HK3:Hid (zC G R w w3):=HK2.out.trans hk3;have HG3:=zA hg3;generalize cQ P n q3 d=y at *;obtain⟨r,q4⟩:=y;simp only at HE2 HI4 HG3;have hp4:=HG3.out.pot';have hnd4:q4.nd.length<=ZM P q4:=by unfold ZM;omega
   have hnd:q4.nd.length<=10000:=by omega
   clear hi3 hk3 hg3 HI3;go_wp2_with fail
   refine(Ut w3 G q4.nd root q4.tests q4.dep ⟨1,l,r,[],[],[],0⟩ HI4.out.gd hnd).mono ?_;rintro e w4 ⟨rfl,hgd4,hb4⟩;have HI5:=zA (HI4.out.added hgd4 hb4);have HK4:Hid (zC G R w w4):=HK3.out.trans (zC.of_belowG hb4);have hmo:=HG3.out.mono;have HGo:Hid (wR P q (q4.add ⟨1,l,r,[],[],[],0⟩)):=⟨by have h1:=HGr.out.mono;show q.s.1<=q4.s.1;omega,by show (q4.nd++[_]).length+2*(P.length-q4.s.1)<=_;rw[tm,mh];unfold ZM at hp4 hps hpo ⊢;omega,HG3.out.t0,by show q4.tests<=((q4.nd++[_]).length:Int);rw[tm];have:=HG3.out.t1;omega⟩;clear hgd4 hb4;go_wp2_with fail
   go_roundw
   case rel=>exact⟨k,_,_,rfl,HI5,HK4,HGo,zA (by have h1:=Hk.out;show P.length-q4.s.1<=k;omega),HE2⟩
   case measure=>rw[HM.out,HI5.out.meas];show P.length-q4.s.1<_;omega
theorem VJ{G:Nat}{root:Int}(h:Gd w G nd root tests dep):w.cell? ⟨G,2,none⟩=some (.int .i64 tests)/\w.cell? ⟨G,3,none⟩=some (.int .i64 dep)/\(∀o,w.frozen? ⟨G,o,none⟩=false):=by
 obtain⟨nv,h1,_⟩:=h;unfold oV at h1;exact⟨by rw[fd w G 2 _ _ _ h1];rfl,by rw[fd w G 3 _ _ _ h1];rfl,fun o=>by simp[World.frozen?,h1]⟩
theorem Ja{G:Nat}{root:Int}(h:Gd w G nd root tests dep):Gd (w.setCell ⟨G,2,none⟩ (.int .i64 (tests+1))) G nd root (tests+1) dep:=by
 obtain⟨nv,h1,h2⟩:=h;refine⟨nv,?_,yW h2 (l8 G)⟩;unfold oV at h1 ⊢;rw[tr w G 2 _ _ _ h1];simp
theorem zEZ{G:Nat}{root d:Int}(h:Gd w G nd root tests dep):Gd (w.setCell ⟨G,3,none⟩ (.int .i64 d)) G nd root tests d:=by
 obtain⟨nv,h1,h2⟩:=h;refine⟨nv,?_,yW h2 (l8 G)⟩;unfold oV at h1 ⊢;rw[tr w G 3 _ _ _ h1];simp
theorem Below.setG{G o:Nat}{u:Value}:Below G w (w.setCell ⟨G,o,none⟩ u):=(tg _ _).setCell (p:=⟨G,o,none⟩) (j1 _) u
theorem Gd.alloc{G:Nat}{root:Int}(h:Gd w G nd root tests dep)(o:Obj):Gd (w.alloc o) G nd root tests dep:=by
 have zKZ:=h.lt;obtain⟨nv,h1,h2⟩:=h;exact⟨nv,by rw[li _ _ _ zKZ];exact h1,h2.alloc _⟩
theorem zAH(hf:Qd R g cap P G root n)(w:World)(q:GS)(d:Int)(zL9:ZF w R g cap P G root q)(zLC:zC5 P q d)(hn:P.length-q.s.1<=n+1)(h1:(zD P vG q.s).1=true) :
 Calls Tryz.prog 190 #[.pointer (some ⟨R,0,none⟩),.pointer (some ⟨G,0,none⟩),.int .i64 d] w fun e w'=>e=.returned (.int .i64 (xA P (n+1) q d).1)/\ZF w' R g cap P G root (xA P (n+1) q d).2/\zC G R w w'/\wR P q (xA P (n+1) q d).2:=by
 have hGl:=zL9.gd.lt;have hat:=zL9.ctx.at';have hmany:=zL9.ctx.many;have zLO:=kG h1;have hps:=YR h1 hat
 have HF:Hid (xA P (n+1) q d=((((xA P n (q.to (zD P vG q.s).2) (d+1)).2.nd.length:Nat):Int),(xA P n (q.to (zD P vG q.s).2) (d+1)).2.add ⟨3,(xA P n (q.to (zD P vG q.s).2) (d+1)).1,0,[],[],[],0⟩)):=by
  unfold Hid;rw[xA,h1]
 have hok1:zC5 P (q.to (zD P vG q.s).2) (d+1):=⟨zLC.t0,zLC.t1,by have:=zLC.room;omega,by have:=zLC.d0;omega,by have:=zLC.d1;show d+1<=(((zD P vG q.s).2.1:Nat):Int);rw[zLO];omega⟩;have hn1:P.length-(q.to (zD P vG q.s).2).s.1<=n:=by show P.length-(zD P vG q.s).2.1<=n;rw[zLO];omega
 have hs1:(q.to (zD P vG q.s).2).s.1=q.s.1+1:=zLO;have HFa:=zA hf;have zLS:=zA zL9;have HOk:=zA zLC;have H1:=zA h1;have hd0:=zLC.d0;have hd1:=zLC.d1;generalize xA P (n+1) q d=F at *;clear hf zL9 zLC h1 zLO
 go_enter Tryz.func190,Tryz.ntmps190
 go_wp2_with fail
 refine(xU R g cap P _ q.s vG zLS.out.ctx).mono ?_;rintro e w1 ⟨rfl,hc1,hk1⟩;rw[H1.out];have hi1:=zLS.out.read hc1 hk1;have HK1:Hid (zC G R w w1):=hk1.of_size (ph hGl);have hG1:=hi1.gd.lt;generalize q.to (zD P vG q.s).2=q1 at *;have HI1:=zA (HFa.out w1 q1 (d+1) hi1 hok1 hn1);clear hc1 hk1 hi1 hok1 hn1;go_wp2_with fail
 refine HI1.out.mono ?_;rintro e w2 ⟨rfl,hi2,hk2,hg2⟩;have HI2:=zA hi2;have HK2:Hid (zC G R w w2):=HK1.out.trans hk2;have HG2:=zA hg2;generalize xA P n q1 (d+1)=y at *;obtain⟨r,q2⟩:=y;simp only at HF HI2 HG2;have hp2:=HG2.out.pot';have hro:=HOk.out.room;have hnd2:q2.nd.length<=ZM P q2:=by unfold ZM;omega
 have hnd:q2.nd.length<=10000:=by omega
 clear hi2 hk2 hg2 HI1;go_wp2_with fail
 refine(Ut w2 G q2.nd root q2.tests q2.dep ⟨3,r,0,[],[],[],0⟩ HI2.out.gd hnd).mono ?_;rintro e w3 ⟨rfl,hgd3,hb3⟩;have HI3:=zA (HI2.out.added hgd3 hb3);have HK3:Hid (zC G R w w3):=HK2.out.trans (zC.of_belowG hb3);have hmo:=HG2.out.mono;have HGo:Hid (wR P q (q2.add ⟨3,r,0,[],[],[],0⟩)):=⟨by show q.s.1<=q2.s.1;omega,by show (q2.nd++[_]).length+2*(P.length-q2.s.1)<=_;rw[tm,mh];unfold ZM at hp2 hps ⊢;omega,HG2.out.t0,by show q2.tests<=((q2.nd++[_]).length:Int);rw[tm];have:=HG2.out.t1;omega⟩;clear hgd3 hb3;go_wp2_with fail
 go_ret
 rw[HF.out];exact⟨rfl,HI3.out,HK3.out,HGo.out⟩
theorem G8(ha:Ky R g cap P G root n)(w:World)(q:GS)(d:Int)(zL9:ZF w R g cap P G root q)(zLC:zC5 P q d)(hn:P.length-q.s.1<=n+1)(h1:(zD P vG q.s).1=false)(h2:(zD P vK (zD P vG q.s).2).1=true) :
 Calls Tryz.prog 190 #[.pointer (some ⟨R,0,none⟩),.pointer (some ⟨G,0,none⟩),.int .i64 d] w fun e w'=>e=.returned (.int .i64 (xA P (n+1) q d).1)/\ZF w' R g cap P G root (xA P (n+1) q d).2/\zC G R w w'/\wR P q (xA P (n+1) q d).2:=by
 have hGl:=zL9.gd.lt;have hat:=zL9.ctx.at';have hmany:=zL9.ctx.many;have hs0:(zD P vG q.s).2.1=q.s.1:=by simp only[zD]at h1 ⊢;rw[h1];rfl
 have zLO:=kG h2
 have HF:Hid (xA P (n+1) q d=((YU P n (q.to (zD P vK (zD P vG q.s).2).2) (d+1)).1,(YU P n (q.to (zD P vK (zD P vG q.s).2).2) (d+1)).2.to (zW P kJ (YU P n (q.to (zD P vK (zD P vG q.s).2).2) (d+1)).2.s))):=by
  unfold Hid;rw[xA,h1];simp only[h2];rfl
 have hs1:(q.to (zD P vK (zD P vG q.s).2).2).s.1=q.s.1+1:=by show (zD P vK (zD P vG q.s).2).2.1=_;rw[zLO,hs0]
 have hpp:ZM P (q.to (zD P vK (zD P vG q.s).2).2)+2=ZM P q:=by unfold ZM;rw[hs1];show q.nd.length+_+2=_;omega
 have hok1:zC5 P (q.to (zD P vK (zD P vG q.s).2).2) (d+1):=⟨zLC.t0,zLC.t1,by have:=zLC.room;omega,by have:=zLC.d0;omega,by have:=zLC.d1;rw[hs1];omega⟩;have hn1:P.length-(q.to (zD P vK (zD P vG q.s).2).2).s.1<=n:=by rw[hs1];omega
 have HA:=zA ha;have zLS:=zA zL9;have HOk:=zA zLC;have H1:=zA h1;have H2:=zA h2;have hd0:=zLC.d0;have hd1:=zLC.d1;generalize xA P (n+1) q d=F at *;clear ha zL9 zLC h1 h2 zLO hs0
 go_enter Tryz.func190,Tryz.ntmps190
 go_wp2_with fail
 refine(xU R g cap P _ q.s vG zLS.out.ctx).mono ?_;rintro e w1 ⟨rfl,hc1,hk1⟩;rw[H1.out];have hi1:=zLS.out.read hc1 hk1;have HK1:Hid (zC G R w w1):=hk1.of_size (ph hGl);have hG1:=hi1.gd.lt;have HC1:=zA hc1;have HI1:=zA hi1;clear hc1 hk1 hi1;go_wp2_with fail
 refine(xU R g cap P _ (zD P vG q.s).2 vK HC1.out).mono ?_;rintro e w2 ⟨rfl,hc2,hk2⟩;rw[H2.out];have hi2:ZF w2 R g cap P G root (q.to (zD P vK (zD P vG q.s).2).2):=HI1.out.read hc2 hk2;have HK2:Hid (zC G R w w2):=HK1.out.trans (hk2.of_size (ph hG1));generalize q.to (zD P vK (zD P vG q.s).2).2=q1 at *;have HI2:=zA (HA.out w2 q1 (d+1) hi2 hok1 hn1);clear hc2 hk2 hi2 hok1 hn1 HI1 HC1;go_wp2_with fail
 refine HI2.out.mono ?_;rintro e w3 ⟨rfl,hi3,hk3,hg3⟩;have HI3:=zA hi3;have HK3:Hid (zC G R w w3):=HK2.out.trans hk3;have HG3:=zA hg3;generalize YU P n q1 (d+1)=y at *;obtain⟨r,q2⟩:=y;simp only at HF HI3 HG3;have hG3:=HI3.out.gd.lt;have hp3:=HG3.out.pot';clear hi3 hk3 hg3 HI2;go_wp2_with fail
 refine(fE R g cap P _ q2.s kJ HI3.out.ctx).mono ?_;rintro e w4 ⟨rfl,hc4,hk4⟩;have HI4:=zA (HI3.out.read hc4 hk4);have HK4:Hid (zC G R w w4):=HK3.out.trans (hk4.of_size (ph hG3));have hmo:=HG3.out.mono;have hwm:q2.s.1<=(zW P kJ q2.s).1:=dH _ _;have HGo:Hid (wR P q (q2.to (zW P kJ q2.s))):=⟨by show q.s.1<=(zW P kJ q2.s).1;omega,by have h9:=Bo (P:=P) (q:=q2) hwm;omega,HG3.out.t0,HG3.out.t1⟩;clear hc4 hk4;go_wp2_with fail
 go_ret
 rw[HF.out];exact⟨rfl,HI4.out,HK4.out,HGo.out⟩
theorem YS(s:St):s.1<=(vU P s).2.1:=by
 have k1:=fun t s=>xV P t s;have k2:∀s,s.1<=(zI P s).2.1:=fun s=>dH _ _;have k3:∀s,s.1<=(yG P s).2.1:=fun s=>dH _ _
 have k4:∀s,s.1<=(vQ P s).2.1:=by
  intro s;unfold vQ;split
  ·split <;> exact xV P _ s
  ·exact j1 _
 unfold vU;split
 ·exact k1 _ _
 ·split
  ·exact p8 (k1 _ _) (p8 (k1 _ _) (k2 _))
  ·split
   ·exact p8 (k1 _ _) (p8 (k1 _ _) (p8 (k2 _) (k4 _)))
   ·split
    ·exact p8 (k1 _ _) (p8 (k1 _ _) (p8 (k2 _) (p8 (k4 _) (k3 _))))
    ·exact p8 (k1 _ _) (p8 (k1 _ _) (p8 (k2 _) (p8 (k4 _) (k2 _))))
theorem G7(w:World)(q:GS)(d:Int)(zL9:ZF w R g cap P G root q)(zLC:zC5 P q d)(h1:(zD P vG q.s).1=false)(h2:(zD P vK (zD P vG q.s).2).1=false) :
 Calls Tryz.prog 190 #[.pointer (some ⟨R,0,none⟩),.pointer (some ⟨G,0,none⟩),.int .i64 d] w fun e w'=>e=.returned (.int .i64 (xA P (n+1) q d).1)/\ZF w' R g cap P G root (xA P (n+1) q d).2/\zC G R w w'/\wR P q (xA P (n+1) q d).2:=by
 have hGl:=zL9.gd.lt;have hat:=zL9.ctx.at';have hmany:=zL9.ctx.many
 have HF:Hid (xA P (n+1) q d=(((q.nd.length:Nat):Int),(((q.tested d).to (vU P (zD P vK (zD P vG q.s).2).2).2).add (vU P (zD P vK (zD P vG q.s).2).2).1))):=by
  unfold Hid;rw[xA,h1];simp only[h2]
 have hs2:(zD P vK (zD P vG q.s).2).2.1=q.s.1:=by
  simp only[zD]at h1 h2 ⊢;rw[h2,h1];rfl
 have HM:=zA (YS P);have hnd:q.nd.length<=10000:=by have:=zLC.room;unfold ZM at this;omega
 have ht0:=zLC.t0;have ht1:=zLC.t1;have hd0:=zLC.d0;have hd1:=zLC.d1;have nR:G≠R:=by have:=zL9.rG;omega
 have ng:G≠g:=by have:=zL9.gG;omega
 have zLS:=zA zL9;have H1:=zA h1;have H2:=zA h2;generalize xA P (n+1) q d=F at *;clear zL9 zLC h1 h2;by_cases hdp:q.dep<d
 ·have hEx:∀(s:St) (x:zT),((q.tested d).to s).add x=⟨s,q.nd++[x],q.tests+1,d⟩:=by intro s x;simp only[GS.tested,GS.to,GS.add];rw[tl hdp]
  have HEx:=zA hEx;clear hEx
  go_enter Tryz.func190,Tryz.ntmps190
  go_wp2_with fail
  refine(xU R g cap P _ q.s vG zLS.out.ctx).mono ?_;rintro e w1 ⟨rfl,hc1,hk1⟩;rw[H1.out];have hi1:=zLS.out.read hc1 hk1;have HK1:Hid (zC G R w w1):=hk1.of_size (ph hGl);have hG1:=hi1.gd.lt;have HC1:=zA hc1;have HI1:=zA hi1;clear hc1 hk1 hi1;go_wp2_with fail
  refine(xU R g cap P _ (zD P vG q.s).2 vK HC1.out).mono ?_;rintro e w2 ⟨rfl,hc2,hk2⟩;rw[H2.out];have hi2:ZF w2 R g cap P G root (q.to (zD P vK (zD P vG q.s).2).2):=HI1.out.read hc2 hk2;have HK2:Hid (zC G R w w2):=HK1.out.trans (hk2.of_size (ph hG1));obtain⟨gc2,gc3,gfz⟩:=VJ hi2.gd;have hG2:=hi2.gd.lt;have HI2:=zA hi2;clear hc2 hk2 hi2 HI1 HC1;generalize (zD P vK (zD P vG q.s).2).2=s2 at *;simp only[GS.to]at gc2 gc3;go_wp2_with fail
  refine(xd _ R g cap P s2 (yE.set (yE.set HI2.out.ctx nR ng) nR ng)).mono ?_;rintro e w3 ⟨rfl,hc3,hk3⟩;have hgd3:Gd w3 G q.nd root (q.tests+1) d:=Gd.keeps (zEZ (Ja HI2.out.gd)) hk3 zLS.out.rG;have HK3:Hid (zC G R w w3):=HK2.out.trans ((zC.of_belowG (Below.setG.trans Below.setG)).trans (hk3.of_size (by simp only[zL];omega)));have HC3:=zA hc3;have HGd3:=zA hgd3;have hmo:=HM.out s2;clear hc3 hk3 hgd3 gc2 gc3 gfz HM;have hG3:=HGd3.out.lt;generalize hpt:vU P s2=y at *;obtain⟨x,s3⟩:=y;simp only at HF HC3 hmo;obtain⟨xk,xl,xr,xn,xm,xo,xu⟩:=x;simp only[kO];clear hpt;go_wp2_with fail
  refine(Ut (w3.alloc _) G q.nd root (q.tests+1) d ⟨xk,xl,xr,xn,xm,xo,xu⟩ (Gd.alloc HGd3.out _) hnd).mono ?_;rintro e w4 ⟨rfl,hgd4,hb4⟩;have hi4:ZF w4 R g cap P G root ⟨s3,q.nd++[⟨xk,xl,xr,xn,xm,xo,xu⟩],q.tests+1,d⟩:=⟨(yE.alloc HC3.out _).belowG hb4 zLS.out.rG zLS.out.gG,hgd4,zLS.out.rG,zLS.out.gG⟩;have HI4:=zA hi4;have HK4:Hid (zC G R w w4):=HK3.out.trans ((zC.alloc (zC.refl _ _ _) (ph hG3) _).trans (zC.of_belowG hb4));clear hgd4 hb4 hi4;go_wp2_with fail
  go_ret
  rw[HF.out,HEx.out];refine⟨rfl,HI4.out,HK4.out,⟨by show q.s.1<=s3.1;omega,?_,by show 0<=q.tests+1;omega,?_⟩⟩
  ·show (q.nd++[_]).length+2*(P.length-s3.1)<=ZM P q+1
   unfold ZM;rw[tm,mh];omega
  ·show q.tests+1<=((q.nd++[_]).length:Int)
   rw[tm,mh];omega
 ·have hEx:∀(s:St) (x:zT),((q.tested d).to s).add x=⟨s,q.nd++[x],q.tests+1,q.dep⟩:=by intro s x;simp only[GS.tested,GS.to,GS.add];rw[tb hdp]
  have HEx:=zA hEx;clear hEx
  go_enter Tryz.func190,Tryz.ntmps190
  go_wp2_with fail
  refine(xU R g cap P _ q.s vG zLS.out.ctx).mono ?_;rintro e w1 ⟨rfl,hc1,hk1⟩;rw[H1.out];have hi1:=zLS.out.read hc1 hk1;have HK1:Hid (zC G R w w1):=hk1.of_size (ph hGl);have hG1:=hi1.gd.lt;have HC1:=zA hc1;have HI1:=zA hi1;clear hc1 hk1 hi1;go_wp2_with fail
  refine(xU R g cap P _ (zD P vG q.s).2 vK HC1.out).mono ?_;rintro e w2 ⟨rfl,hc2,hk2⟩;rw[H2.out];have hi2:ZF w2 R g cap P G root (q.to (zD P vK (zD P vG q.s).2).2):=HI1.out.read hc2 hk2;have HK2:Hid (zC G R w w2):=HK1.out.trans (hk2.of_size (ph hG1));obtain⟨gc2,gc3,gfz⟩:=VJ hi2.gd;have hG2:=hi2.gd.lt;have HI2:=zA hi2;clear hc2 hk2 hi2 HI1 HC1;generalize (zD P vK (zD P vG q.s).2).2=s2 at *;simp only[GS.to]at gc2 gc3;go_wp2_with fail
  refine(xd _ R g cap P s2 (yE.set HI2.out.ctx nR ng)).mono ?_;rintro e w3 ⟨rfl,hc3,hk3⟩;have hgd3:Gd w3 G q.nd root (q.tests+1) q.dep:=Gd.keeps (Ja HI2.out.gd) hk3 zLS.out.rG;have HK3:Hid (zC G R w w3):=HK2.out.trans ((zC.of_belowG (Below.setG)).trans (hk3.of_size (by simp only[zL];omega)));have HC3:=zA hc3;have HGd3:=zA hgd3;have hmo:=HM.out s2;clear hc3 hk3 hgd3 gc2 gc3 gfz HM;have hG3:=HGd3.out.lt;generalize hpt:vU P s2=y at *;obtain⟨x,s3⟩:=y;simp only at HF HC3 hmo;obtain⟨xk,xl,xr,xn,xm,xo,xu⟩:=x;simp only[kO];clear hpt;go_wp2_with fail
  refine(Ut (w3.alloc _) G q.nd root (q.tests+1) q.dep ⟨xk,xl,xr,xn,xm,xo,xu⟩ (Gd.alloc HGd3.out _) hnd).mono ?_;rintro e w4 ⟨rfl,hgd4,hb4⟩;have hi4:ZF w4 R g cap P G root ⟨s3,q.nd++[⟨xk,xl,xr,xn,xm,xo,xu⟩],q.tests+1,q.dep⟩:=⟨(yE.alloc HC3.out _).belowG hb4 zLS.out.rG zLS.out.gG,hgd4,zLS.out.rG,zLS.out.gG⟩;have HI4:=zA hi4;have HK4:Hid (zC G R w w4):=HK3.out.trans ((zC.alloc (zC.refl _ _ _) (ph hG3) _).trans (zC.of_belowG hb4));clear hgd4 hb4 hi4;go_wp2_with fail
  go_ret
  rw[HF.out,HEx.out];refine⟨rfl,HI4.out,HK4.out,⟨by show q.s.1<=s3.1;omega,?_,by show 0<=q.tests+1;omega,?_⟩⟩
  ·show (q.nd++[_]).length+2*(P.length-s3.1)<=ZM P q+1
   unfold ZM;rw[tm,mh];omega
  ·show q.tests+1<=((q.nd++[_]).length:Int)
   rw[tm,mh];omega
theorem zAI:Qd R g cap P G root n:=by
 induction n with
 | zero=>intro w q d zL9 _ hn;have:=zL9.ctx.at';omega
 | succ n ih =>
   intro w q d zL9 zLC hn;cases h1:(zD P vG q.s).1
   ·cases h2:(zD P vK (zD P vG q.s).2).1
    ·exact G7 R g cap P G root n w q d zL9 zLC h1 h2
    ·exact G8 R g cap P G root n (zGQ R g cap P G root n (CP R g cap P G root n ih)) w q d zL9 zLC hn h1 h2
   ·exact zAH R g cap P G root n ih w q d zL9 zLC hn h1
theorem zFT:Ky R g cap P G root n :=
 zGQ R g cap P G root n (CP R g cap P G root n (zAI R g cap P G root n))
def qD(P:List PT)(s:St):Int × GS:=YU P P.length ⟨s,[],0,0⟩ 0
def Zp(nv:Value)(y:Int × GS):Value:=.agg #[nv,.int .i64 y.1,.int .i64 y.2.tests,.int .i64 y.2.dep]
theorem yT{b b':Nat}{e:TypeId}{size:Nat}{v:Value}{n:Nat}{xs:List Value}(h:w.ownsRow b e size v n xs)(hb:b'<=b):w.ownsRow b' e size v n xs:=by
 refine⟨h.1,?_⟩;rcases h.2 with h1|⟨g,cap,yK,h1,h2,r⟩
 ·exact .inl h1
 ·exact .inr ⟨g,cap,yK,h1,p8 hb h2,r⟩
theorem zES(w:World)(R g cap:Nat)(P:List PT)(s:St)(h:xX w R g cap P s) :
 Calls Tryz.prog 152 #[.pointer (some ⟨R,0,none⟩)] w fun e w'=>∃nv,e=.returned (Zp nv (qD P s))/\w'.ownsRow w.heap.size 238 7 nv (qD P s).2.nd.length (fB (qD P s).2.nd)/\xX w' R g cap P (qD P s).2.s/\zC w.heap.size R w w':=by
 have hR:=h.rlt;have hg:=h.glt;have hmany:=h.many;have hat:=h.at';have HC:=zA h;have HAlt:=zA (zFT R g cap P (w.heap.size+1) 0 P.length);have n0:w.heap.size≠R:=by omega
 have n1:w.heap.size+1≠R:=by omega
 have HF:Hid (qD P s=YU P P.length ⟨s,[],0,0⟩ 0):=rfl;generalize qD P s=F at *;clear h
 go_enter Tryz.func152,Tryz.ntmps152
 go_wp2_with fail
 have zLA:Gd ((w.alloc (.cells #[.slice none 0 0,.int .i64 0,.int .i64 0,.int .i64 0] 182)).alloc (.cells #[.slice none 0 0,.int .i64 0,.int .i64 0,.int .i64 0] 182)) (w.heap.size+1) [] 0 0 0 :=
  ⟨.slice none 0 0,by
   have h1:=zG (w.alloc (.cells #[.slice none 0 0,.int .i64 0,.int .i64 0,.int .i64 0] 182)) (.cells #[.slice none 0 0,.int .i64 0,.int .i64 0,.int .i64 0] 182);rw[show (w.alloc (.cells #[.slice none 0 0,.int .i64 0,.int .i64 0,.int .i64 0] 182)).heap.size=w.heap.size+1 by simp]at h1;exact h1,ly _ _ _ _⟩
 refine(HAlt.out _ ⟨s,[],0,0⟩ 0 ⟨yE.alloc (yE.alloc HC.out _) _,zLA,by omega,by omega⟩ ⟨lh 0,lh 0,by show 0+2*(P.length-s.1)<=9000;omega,by decide,by omega⟩ (by omega)).mono ?_;rintro e w1 ⟨rfl,hi1,hk1,_⟩;rw[<-HF.out];rw[<-HF.out]at hi1;have HT1:Hid (zC w.heap.size R w w1):=zC.trans (zC.new (zC.new (zC.refl _ _ _))) (hk1.mono (by omega));have q0:=fun o=>hk1.cell (p:=⟨w.heap.size,o,none⟩) (by simp) n0;have r0:=fun o=>hk1.frozen (p:=⟨w.heap.size,o,none⟩) (by simp) n0;obtain⟨hc1,⟨nv,hgb,zL1⟩,_,_⟩:=hi1;unfold oV at hgb;have cz:=fun j=>fd _ _ j _ _ _ hgb;have fz:∀o,w1.frozen? ⟨w.heap.size+1,o,none⟩=false:=fun o=>by simp[World.frozen?,hgb]
 have HC1:=zA hc1;have HO1:=zA zL1;have m0:w.heap.size≠g:=by omega
 have m1:w.heap.size+1≠g:=by omega
 have hform:nv=.slice none 0 0\/∃gg n c,nv=.slice (some ⟨gg,0,none⟩) n c:=by
  rcases zL1.2 with ⟨h1,_⟩|⟨gg,c,_,h1,_⟩
  ·exact .inl h1
  ·exact .inr ⟨gg,_,c,h1⟩
 clear zLA hk1 hgb zL1 hc1 HAlt;rcases hform with rfl|⟨gg,gn,gc,rfl⟩
 ·go_wp2_with fail
  refine pe (v:=Zp (.slice none 0 0) F) (by simp (maxDischargeDepth:=8) [results,Tryz.results152,go_sem,Zp,q0]) rfl ⟨_,rfl,?_,?_,?_⟩
  ·exact yT (yW (yW (yW (yW (yW HO1.out (by omega)) (by omega)) (by omega)) (by omega)) (by omega)) (by omega)
  ·exact(yE.set (yE.set (yE.set (yE.set (yE.set HC1.out n1 m1) n0 m0) n0 m0) n0 m0) n0 m0)
  ·exact(zC.set (zC.set (zC.set (zC.set (zC.set HT1.out (ml _ _)) (j1 _)) (j1 _)) (j1 _)) (j1 _))
 ·go_wp2_with fail
  refine pe (v:=Zp (.slice (some ⟨gg,0,none⟩) gn gc) F) (by simp (maxDischargeDepth:=8) [results,Tryz.results152,go_sem,Zp,q0]) rfl ⟨_,rfl,?_,?_,?_⟩
  ·exact yT (yW (yW (yW (yW (yW HO1.out (by omega)) (by omega)) (by omega)) (by omega)) (by omega)) (by omega)
  ·exact(yE.set (yE.set (yE.set (yE.set (yE.set HC1.out n1 m1) n0 m0) n0 m0) n0 m0) n0 m0)
  ·exact(zC.set (zC.set (zC.set (zC.set (zC.set HT1.out (ml _ _)) (j1 _)) (j1 _)) (j1 _)) (j1 _))
end Go.Proofs.YtnbpdffdnphbeabGreatDoor
