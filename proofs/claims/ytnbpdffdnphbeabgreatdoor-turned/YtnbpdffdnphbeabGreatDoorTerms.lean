import Derived.Test.YtnbpdffdnphbeabGreatDoorComp
set_option maxHeartbeats 1000000
namespace Go.Proofs.YtnbpdffdnphbeabGreatDoor
open Go.RowKit
variable{dep tests:Int}{nd:List zR}{w:World}(R g cap:Nat)(P:List PT)(G:Nat)(root:Int)
theorem Dn(n:Nat)(hit:Qy R g cap P G root n):JI R g cap P G root n:=by
 intro w q d zLT zLW hn;have hGl:=zLT.gd.lt;have HI:=zA hit;have zM9:=zA zLT;have HOk:=zA zLW;have HF:Hid (cO P n q d=mU P (fun q=>xB P n q d) dQ 2 P.length (xB P n q d).1 (xB P n q d).2):=rfl;generalize cO P n q d=F at *;clear hit zLT zLW
 go_enter Tryz.func188,Tryz.ntmps188
 go_wp2_with fail
 refine(HI.out w q d zM9.out HOk.out hn).mono ?_;rintro e w1 ⟨rfl,hi1,hk1,hg1⟩;have HIn1:=zA hi1;have HK1:=zA hk1;have HG1:=zA hg1;generalize xB P n q d=x at *;obtain⟨l0,q1⟩:=x;simp only at HF HIn1 HG1;clear hi1 hk1 hg1;go_wp2_with fail
 go_loopw [7] (fun lv wr=>∃(k:Nat) (l:Int) (q2:GS),lv=.int .i64 l/\Hid (Ya wr R g cap P G root q2)/\Hid (zC G R w wr)/\Hid (Zt P q q2)/\Hid (P.length-q2.s.1<=k)/\Hid (mU P (fun q=>xB P n q d) dQ 2 k l q2=F)) (fun _ wr=>DB P.length R wr)
 case atStart=>exact⟨P.length,l0,q1,rfl,HIn1,HK1,HG1,zA (by omega),zA HF.out.symm⟩
 case round =>
  obtain⟨k,l,q2,rfl,HIr,HKr,HGr,Hk,HE⟩:=hrel;clear HF HIn1 HK1 HG1;have hat:=HIr.out.ctx.at';have HM:=zA HIr.out.meas;have hGr:=HIr.out.gd.lt;obtain⟨k,rfl⟩:∃j,k=j+1:=⟨k-1,by have:=Hk.out;omega⟩;have hE:=HE.out;rw[mU]at hE;go_wp2_with fail
  refine(xY R g cap P _ q2.s dQ HIr.out.ctx).mono ?_;rintro e w2 ⟨rfl,hc2,hk2⟩;have hi2:=HIr.out.read hc2 hk2;have HK2:Hid (zC G R w w2):=HKr.out.trans (hk2.of_size (pf hGr));clear hc2 hk2 HE;cases hs:(zD P dQ q2.s).1
  ·rw[hs]at hE
   have HE2:=zA hE;have HI2:=zA hi2;have HGo:Hid (Zt P q (q2.to (zD P dQ q2.s).2)):=⟨ty HGr.out.mono (xZ P _ q2.s),ty (BC (xZ P _ q2.s)) HGr.out.pot',HGr.out.t0,HGr.out.t1⟩;clear hE hi2 hs;go_wp2_with fail
   go_ret
   obtain rfl:=HE2.out;exact⟨rfl,HI2.out,HK2.out,HGo.out⟩
  ·rw[hs]at hE
   have zM7:=kK hs;have hps:=Xl hs hat;have hpo:=HGr.out.pot';have hro:=HOk.out.room;have hok2:zD4 P (q2.to (zD P dQ q2.s).2) d:=⟨HGr.out.t0,HGr.out.t1,by omega,HOk.out.d0,by have h1:=HOk.out.d1;have h2:=HGr.out.mono;show d<=(((zD P dQ q2.s).2.1:Nat):Int);rw[zM7];omega⟩;have hn2:P.length-(q2.to (zD P dQ q2.s).2).s.1<=n:=by show P.length-(zD P dQ q2.s).2.1<=n;rw[zM7];have h2:=HGr.out.mono;omega
   have hs1:(q2.to (zD P dQ q2.s).2).s.1=q2.s.1+1:=zM7;generalize q2.to (zD P dQ q2.s).2=q3 at *;have HI3:=zA (HI.out w2 q3 d hi2 hok2 hn2);have hG2:=hi2.gd.lt;have HE2:=zA hE;clear hE hi2 hs zM7 hok2 hn2;go_wp2_with fail
   refine HI3.out.mono ?_;rintro e w3 ⟨rfl,hi3,hk3,hg3⟩;have HI4:=zA hi3;have HK3:Hid (zC G R w w3):=HK2.out.trans hk3;have HG3:=zA hg3;generalize xB P n q3 d=y at *;obtain⟨r,q4⟩:=y;simp only at HE2 HI4 HG3;have hp4:=HG3.out.pot';have hnd4:q4.nd.length<=Yh P q4:=by unfold Yh;omega
   have hnd:q4.nd.length<=10000:=by omega
   clear hi3 hk3 hg3 HI3;go_wp2_with fail
   refine(UD w3 G q4.nd root q4.tests q4.dep ⟨2,l,r,[],[],[],0⟩ HI4.out.gd hnd).mono ?_;rintro e w4 ⟨rfl,hgd4,hb4⟩;have HI5:=zA (HI4.out.added hgd4 hb4);have HK4:Hid (zC G R w w4):=HK3.out.trans (zC.of_belowG hb4);have hmo:=HG3.out.mono;have HGo:Hid (Zt P q (q4.add ⟨2,l,r,[],[],[],0⟩)):=⟨by have h1:=HGr.out.mono;show q.s.1<=q4.s.1;omega,by show (q4.nd++[_]).length+2*(P.length-q4.s.1)<=_;rw[tm,mj];unfold Yh at hp4 hps hpo ⊢;omega,HG3.out.t0,by show q4.tests<=((q4.nd++[_]).length:Int);rw[tm];have:=HG3.out.t1;omega⟩;clear hgd4 hb4;go_wp2_with fail
   go_roundw
   case rel=>exact⟨k,_,_,rfl,HI5,HK4,HGo,zA (by have h1:=Hk.out;show P.length-q4.s.1<=k;omega),HE2⟩
   case measure=>rw[HM.out,HI5.out.meas];show P.length-q4.s.1<_;omega
theorem zHI(n:Nat)(hit:JI R g cap P G root n):KO R g cap P G root n:=by
 intro w q d zLT zLW hn;have hGl:=zLT.gd.lt;have HI:=zA hit;have zM9:=zA zLT;have HOk:=zA zLW;have HF:Hid (Xo P n q d=mU P (fun q=>cO P n q d) Q8 1 P.length (cO P n q d).1 (cO P n q d).2):=rfl;generalize Xo P n q d=F at *;clear hit zLT zLW
 go_enter Tryz.func182,Tryz.ntmps182
 go_wp2_with fail
 refine(HI.out w q d zM9.out HOk.out hn).mono ?_;rintro e w1 ⟨rfl,hi1,hk1,hg1⟩;have HIn1:=zA hi1;have HK1:=zA hk1;have HG1:=zA hg1;generalize cO P n q d=x at *;obtain⟨l0,q1⟩:=x;simp only at HF HIn1 HG1;clear hi1 hk1 hg1;go_wp2_with fail
 go_loopw [7] (fun lv wr=>∃(k:Nat) (l:Int) (q2:GS),lv=.int .i64 l/\Hid (Ya wr R g cap P G root q2)/\Hid (zC G R w wr)/\Hid (Zt P q q2)/\Hid (P.length-q2.s.1<=k)/\Hid (mU P (fun q=>cO P n q d) Q8 1 k l q2=F)) (fun _ wr=>DB P.length R wr)
 case atStart=>exact⟨P.length,l0,q1,rfl,HIn1,HK1,HG1,zA (by omega),zA HF.out.symm⟩
 case round =>
  obtain⟨k,l,q2,rfl,HIr,HKr,HGr,Hk,HE⟩:=hrel;clear HF HIn1 HK1 HG1;have hat:=HIr.out.ctx.at';have HM:=zA HIr.out.meas;have hGr:=HIr.out.gd.lt;obtain⟨k,rfl⟩:∃j,k=j+1:=⟨k-1,by have:=Hk.out;omega⟩;have hE:=HE.out;rw[mU]at hE;go_wp2_with fail
  refine(xY R g cap P _ q2.s Q8 HIr.out.ctx).mono ?_;rintro e w2 ⟨rfl,hc2,hk2⟩;have hi2:=HIr.out.read hc2 hk2;have HK2:Hid (zC G R w w2):=HKr.out.trans (hk2.of_size (pf hGr));clear hc2 hk2 HE;cases hs:(zD P Q8 q2.s).1
  ·rw[hs]at hE
   have HE2:=zA hE;have HI2:=zA hi2;have HGo:Hid (Zt P q (q2.to (zD P Q8 q2.s).2)):=⟨ty HGr.out.mono (xZ P _ q2.s),ty (BC (xZ P _ q2.s)) HGr.out.pot',HGr.out.t0,HGr.out.t1⟩;clear hE hi2 hs;go_wp2_with fail
   go_ret
   obtain rfl:=HE2.out;exact⟨rfl,HI2.out,HK2.out,HGo.out⟩
  ·rw[hs]at hE
   have zM7:=kK hs;have hps:=Xl hs hat;have hpo:=HGr.out.pot';have hro:=HOk.out.room;have hok2:zD4 P (q2.to (zD P Q8 q2.s).2) d:=⟨HGr.out.t0,HGr.out.t1,by omega,HOk.out.d0,by have h1:=HOk.out.d1;have h2:=HGr.out.mono;show d<=(((zD P Q8 q2.s).2.1:Nat):Int);rw[zM7];omega⟩;have hn2:P.length-(q2.to (zD P Q8 q2.s).2).s.1<=n:=by show P.length-(zD P Q8 q2.s).2.1<=n;rw[zM7];have h2:=HGr.out.mono;omega
   have hs1:(q2.to (zD P Q8 q2.s).2).s.1=q2.s.1+1:=zM7;generalize q2.to (zD P Q8 q2.s).2=q3 at *;have HI3:=zA (HI.out w2 q3 d hi2 hok2 hn2);have hG2:=hi2.gd.lt;have HE2:=zA hE;clear hE hi2 hs zM7 hok2 hn2;go_wp2_with fail
   refine HI3.out.mono ?_;rintro e w3 ⟨rfl,hi3,hk3,hg3⟩;have HI4:=zA hi3;have HK3:Hid (zC G R w w3):=HK2.out.trans hk3;have HG3:=zA hg3;generalize cO P n q3 d=y at *;obtain⟨r,q4⟩:=y;simp only at HE2 HI4 HG3;have hp4:=HG3.out.pot';have hnd4:q4.nd.length<=Yh P q4:=by unfold Yh;omega
   have hnd:q4.nd.length<=10000:=by omega
   clear hi3 hk3 hg3 HI3;go_wp2_with fail
   refine(UD w3 G q4.nd root q4.tests q4.dep ⟨1,l,r,[],[],[],0⟩ HI4.out.gd hnd).mono ?_;rintro e w4 ⟨rfl,hgd4,hb4⟩;have HI5:=zA (HI4.out.added hgd4 hb4);have HK4:Hid (zC G R w w4):=HK3.out.trans (zC.of_belowG hb4);have hmo:=HG3.out.mono;have HGo:Hid (Zt P q (q4.add ⟨1,l,r,[],[],[],0⟩)):=⟨by have h1:=HGr.out.mono;show q.s.1<=q4.s.1;omega,by show (q4.nd++[_]).length+2*(P.length-q4.s.1)<=_;rw[tm,mj];unfold Yh at hp4 hps hpo ⊢;omega,HG3.out.t0,by show q4.tests<=((q4.nd++[_]).length:Int);rw[tm];have:=HG3.out.t1;omega⟩;clear hgd4 hb4;go_wp2_with fail
   go_roundw
   case rel=>exact⟨k,_,_,rfl,HI5,HK4,HGo,zA (by have h1:=Hk.out;show P.length-q4.s.1<=k;omega),HE2⟩
   case measure=>rw[HM.out,HI5.out.meas];show P.length-q4.s.1<_;omega
theorem Ue{G:Nat}{root:Int}(h:Gd w G nd root tests dep):w.cell? ⟨G,2,none⟩=some (.int .i64 tests)/\w.cell? ⟨G,3,none⟩=some (.int .i64 dep)/\(∀o,w.frozen? ⟨G,o,none⟩=false):=by
 obtain⟨nv,h1,_⟩:=h;unfold rS at h1;exact⟨by rw[f9 w G 2 _ _ _ h1];rfl,by rw[f9 w G 3 _ _ _ h1];rfl,fun o=>by simp[World.frozen?,h1]⟩
theorem Jw{G:Nat}{root:Int}(h:Gd w G nd root tests dep):Gd (w.setCell ⟨G,2,none⟩ (.int .i64 (tests+1))) G nd root (tests+1) dep:=by
 obtain⟨nv,h1,h2⟩:=h;refine⟨nv,?_,yY h2 (mz G)⟩;unfold rS at h1 ⊢;rw[tq w G 2 _ _ _ h1];simp
theorem zFN{G:Nat}{root d:Int}(h:Gd w G nd root tests dep):Gd (w.setCell ⟨G,3,none⟩ (.int .i64 d)) G nd root tests d:=by
 obtain⟨nv,h1,h2⟩:=h;refine⟨nv,?_,yY h2 (mz G)⟩;unfold rS at h1 ⊢;rw[tq w G 3 _ _ _ h1];simp
theorem Below.setG{G o:Nat}{u:Value}:Below G w (w.setCell ⟨G,o,none⟩ u):=(tg _ _).setCell (p:=⟨G,o,none⟩) (j1 _) u
theorem Gd.alloc{G:Nat}{root:Int}(h:Gd w G nd root tests dep)(o:Obj):Gd (w.alloc o) G nd root tests dep:=by
 have zLL:=h.lt;obtain⟨nv,h1,h2⟩:=h;exact⟨nv,by rw[l8 _ _ _ zLL];exact h1,h2.alloc _⟩
theorem zBC(n:Nat)(hf:Qy R g cap P G root n)(w:World)(q:GS)(d:Int)(zLT:Ya w R g cap P G root q)(zLW:zD4 P q d)(hn:P.length-q.s.1<=n+1)(h1:(zD P vK q.s).1=true) :
 Calls Tryz.prog 190 #[.pointer (some ⟨R,0,none⟩),.pointer (some ⟨G,0,none⟩),.int .i64 d] w fun e w'=>e=.returned (.int .i64 (xB P (n+1) q d).1)/\Ya w' R g cap P G root (xB P (n+1) q d).2/\zC G R w w'/\Zt P q (xB P (n+1) q d).2:=by
 have hGl:=zLT.gd.lt;have hat:=zLT.ctx.at';have hmany:=zLT.ctx.many;have zM7:=kK h1;have hps:=Xl h1 hat
 have HF:Hid (xB P (n+1) q d=((((xB P n (q.to (zD P vK q.s).2) (d+1)).2.nd.length:Nat):Int),(xB P n (q.to (zD P vK q.s).2) (d+1)).2.add ⟨3,(xB P n (q.to (zD P vK q.s).2) (d+1)).1,0,[],[],[],0⟩)):=by
  unfold Hid;rw[xB,h1]
 have hok1:zD4 P (q.to (zD P vK q.s).2) (d+1):=⟨zLW.t0,zLW.t1,by have:=zLW.room;omega,by have:=zLW.d0;omega,by have:=zLW.d1;show d+1<=(((zD P vK q.s).2.1:Nat):Int);rw[zM7];omega⟩;have hn1:P.length-(q.to (zD P vK q.s).2).s.1<=n:=by show P.length-(zD P vK q.s).2.1<=n;rw[zM7];omega
 have hs1:(q.to (zD P vK q.s).2).s.1=q.s.1+1:=zM7;have HFa:=zA hf;have zM9:=zA zLT;have HOk:=zA zLW;have H1:=zA h1;have hd0:=zLW.d0;have hd1:=zLW.d1;generalize xB P (n+1) q d=F at *;clear hf zLT zLW h1 zM7
 go_enter Tryz.func190,Tryz.ntmps190
 go_wp2_with fail
 refine(xY R g cap P _ q.s vK zM9.out.ctx).mono ?_;rintro e w1 ⟨rfl,hc1,hk1⟩;rw[H1.out];have hi1:=zM9.out.read hc1 hk1;have HK1:Hid (zC G R w w1):=hk1.of_size (pf hGl);have hG1:=hi1.gd.lt;generalize q.to (zD P vK q.s).2=q1 at *;have HI1:=zA (HFa.out w1 q1 (d+1) hi1 hok1 hn1);clear hc1 hk1 hi1 hok1 hn1;go_wp2_with fail
 refine HI1.out.mono ?_;rintro e w2 ⟨rfl,hi2,hk2,hg2⟩;have HI2:=zA hi2;have HK2:Hid (zC G R w w2):=HK1.out.trans hk2;have HG2:=zA hg2;generalize xB P n q1 (d+1)=y at *;obtain⟨r,q2⟩:=y;simp only at HF HI2 HG2;have hp2:=HG2.out.pot';have hro:=HOk.out.room;have hnd2:q2.nd.length<=Yh P q2:=by unfold Yh;omega
 have hnd:q2.nd.length<=10000:=by omega
 clear hi2 hk2 hg2 HI1;go_wp2_with fail
 refine(UD w2 G q2.nd root q2.tests q2.dep ⟨3,r,0,[],[],[],0⟩ HI2.out.gd hnd).mono ?_;rintro e w3 ⟨rfl,hgd3,hb3⟩;have HI3:=zA (HI2.out.added hgd3 hb3);have HK3:Hid (zC G R w w3):=HK2.out.trans (zC.of_belowG hb3);have hmo:=HG2.out.mono;have HGo:Hid (Zt P q (q2.add ⟨3,r,0,[],[],[],0⟩)):=⟨by show q.s.1<=q2.s.1;omega,by show (q2.nd++[_]).length+2*(P.length-q2.s.1)<=_;rw[tm,mj];unfold Yh at hp2 hps ⊢;omega,HG2.out.t0,by show q2.tests<=((q2.nd++[_]).length:Int);rw[tm];have:=HG2.out.t1;omega⟩;clear hgd3 hb3;go_wp2_with fail
 go_ret
 rw[HF.out];exact⟨rfl,HI3.out,HK3.out,HGo.out⟩
theorem zx(n:Nat)(ha:KO R g cap P G root n)(w:World)(q:GS)(d:Int)(zLT:Ya w R g cap P G root q)(zLW:zD4 P q d)(hn:P.length-q.s.1<=n+1)(h1:(zD P vK q.s).1=false)(h2:(zD P vO (zD P vK q.s).2).1=true) :
 Calls Tryz.prog 190 #[.pointer (some ⟨R,0,none⟩),.pointer (some ⟨G,0,none⟩),.int .i64 d] w fun e w'=>e=.returned (.int .i64 (xB P (n+1) q d).1)/\Ya w' R g cap P G root (xB P (n+1) q d).2/\zC G R w w'/\Zt P q (xB P (n+1) q d).2:=by
 have hGl:=zLT.gd.lt;have hat:=zLT.ctx.at';have hmany:=zLT.ctx.many;have hs0:(zD P vK q.s).2.1=q.s.1:=by simp only[zD]at h1 ⊢;rw[h1];rfl
 have zM7:=kK h2
 have HF:Hid (xB P (n+1) q d=((Xo P n (q.to (zD P vO (zD P vK q.s).2).2) (d+1)).1,(Xo P n (q.to (zD P vO (zD P vK q.s).2).2) (d+1)).2.to (zU P kM (Xo P n (q.to (zD P vO (zD P vK q.s).2).2) (d+1)).2.s))):=by
  unfold Hid;rw[xB,h1];simp only[h2];rfl
 have hs1:(q.to (zD P vO (zD P vK q.s).2).2).s.1=q.s.1+1:=by show (zD P vO (zD P vK q.s).2).2.1=_;rw[zM7,hs0]
 have hpp:Yh P (q.to (zD P vO (zD P vK q.s).2).2)+2=Yh P q:=by unfold Yh;rw[hs1];show q.nd.length+_+2=_;omega
 have hok1:zD4 P (q.to (zD P vO (zD P vK q.s).2).2) (d+1):=⟨zLW.t0,zLW.t1,by have:=zLW.room;omega,by have:=zLW.d0;omega,by have:=zLW.d1;rw[hs1];omega⟩;have hn1:P.length-(q.to (zD P vO (zD P vK q.s).2).2).s.1<=n:=by rw[hs1];omega
 have HA:=zA ha;have zM9:=zA zLT;have HOk:=zA zLW;have H1:=zA h1;have H2:=zA h2;have hd0:=zLW.d0;have hd1:=zLW.d1;generalize xB P (n+1) q d=F at *;clear ha zLT zLW h1 h2 zM7 hs0
 go_enter Tryz.func190,Tryz.ntmps190
 go_wp2_with fail
 refine(xY R g cap P _ q.s vK zM9.out.ctx).mono ?_;rintro e w1 ⟨rfl,hc1,hk1⟩;rw[H1.out];have hi1:=zM9.out.read hc1 hk1;have HK1:Hid (zC G R w w1):=hk1.of_size (pf hGl);have hG1:=hi1.gd.lt;have HC1:=zA hc1;have HI1:=zA hi1;clear hc1 hk1 hi1;go_wp2_with fail
 refine(xY R g cap P _ (zD P vK q.s).2 vO HC1.out).mono ?_;rintro e w2 ⟨rfl,hc2,hk2⟩;rw[H2.out];have hi2:Ya w2 R g cap P G root (q.to (zD P vO (zD P vK q.s).2).2):=HI1.out.read hc2 hk2;have HK2:Hid (zC G R w w2):=HK1.out.trans (hk2.of_size (pf hG1));generalize q.to (zD P vO (zD P vK q.s).2).2=q1 at *;have HI2:=zA (HA.out w2 q1 (d+1) hi2 hok1 hn1);clear hc2 hk2 hi2 hok1 hn1 HI1 HC1;go_wp2_with fail
 refine HI2.out.mono ?_;rintro e w3 ⟨rfl,hi3,hk3,hg3⟩;have HI3:=zA hi3;have HK3:Hid (zC G R w w3):=HK2.out.trans hk3;have HG3:=zA hg3;generalize Xo P n q1 (d+1)=y at *;obtain⟨r,q2⟩:=y;simp only at HF HI3 HG3;have hG3:=HI3.out.gd.lt;have hp3:=HG3.out.pot';clear hi3 hk3 hg3 HI2;go_wp2_with fail
 refine(fE R g cap P _ q2.s kM HI3.out.ctx).mono ?_;rintro e w4 ⟨rfl,hc4,hk4⟩;have HI4:=zA (HI3.out.read hc4 hk4);have HK4:Hid (zC G R w w4):=HK3.out.trans (hk4.of_size (pf hG3));have hmo:=HG3.out.mono;have hwm:q2.s.1<=(zU P kM q2.s).1:=dG _ _;have HGo:Hid (Zt P q (q2.to (zU P kM q2.s))):=⟨by show q.s.1<=(zU P kM q2.s).1;omega,by have h9:=BC (P:=P) (q:=q2) hwm;omega,HG3.out.t0,HG3.out.t1⟩;clear hc4 hk4;go_wp2_with fail
 go_ret
 rw[HF.out];exact⟨rfl,HI4.out,HK4.out,HGo.out⟩
theorem Xm(s:St):s.1<=(vY P s).2.1:=by
 have k1:=fun t s=>xZ P t s;have k2:∀s,s.1<=(zI P s).2.1:=fun s=>dG _ _;have k3:∀s,s.1<=(yG P s).2.1:=fun s=>dG _ _
 have k4:∀s,s.1<=(vU P s).2.1:=by
  intro s;unfold vU;split
  ·split <;> exact xZ P _ s
  ·exact j1 _
 unfold vY;split
 ·exact k1 _ _
 ·split
  ·exact ty (k1 _ _) (ty (k1 _ _) (k2 _))
  ·split
   ·exact ty (k1 _ _) (ty (k1 _ _) (ty (k2 _) (k4 _)))
   ·split
    ·exact ty (k1 _ _) (ty (k1 _ _) (ty (k2 _) (ty (k4 _) (k3 _))))
    ·exact ty (k1 _ _) (ty (k1 _ _) (ty (k2 _) (ty (k4 _) (k2 _))))
theorem zw(n:Nat)(w:World)(q:GS)(d:Int)(zLT:Ya w R g cap P G root q)(zLW:zD4 P q d)(h1:(zD P vK q.s).1=false)(h2:(zD P vO (zD P vK q.s).2).1=false) :
 Calls Tryz.prog 190 #[.pointer (some ⟨R,0,none⟩),.pointer (some ⟨G,0,none⟩),.int .i64 d] w fun e w'=>e=.returned (.int .i64 (xB P (n+1) q d).1)/\Ya w' R g cap P G root (xB P (n+1) q d).2/\zC G R w w'/\Zt P q (xB P (n+1) q d).2:=by
 have hGl:=zLT.gd.lt;have hat:=zLT.ctx.at';have hmany:=zLT.ctx.many
 have HF:Hid (xB P (n+1) q d=(((q.nd.length:Nat):Int),(((q.tested d).to (vY P (zD P vO (zD P vK q.s).2).2).2).add (vY P (zD P vO (zD P vK q.s).2).2).1))):=by
  unfold Hid;rw[xB,h1];simp only[h2]
 have hs2:(zD P vO (zD P vK q.s).2).2.1=q.s.1:=by
  simp only[zD]at h1 h2 ⊢;rw[h2,h1];rfl
 have HM:=zA (Xm P);have hnd:q.nd.length<=10000:=by have:=zLW.room;unfold Yh at this;omega
 have ht0:=zLW.t0;have ht1:=zLW.t1;have hd0:=zLW.d0;have hd1:=zLW.d1;have nR:G≠R:=by have:=zLT.rG;omega
 have ng:G≠g:=by have:=zLT.gG;omega
 have zM9:=zA zLT;have H1:=zA h1;have H2:=zA h2;generalize xB P (n+1) q d=F at *;clear zLT zLW h1 h2;by_cases hdp:q.dep<d
 ·have hEx:∀(s:St) (x:zR),((q.tested d).to s).add x=⟨s,q.nd++[x],q.tests+1,d⟩:=by intro s x;simp only[GS.tested,GS.to,GS.add];rw[tl hdp]
  have HEx:=zA hEx;clear hEx
  go_enter Tryz.func190,Tryz.ntmps190
  go_wp2_with fail
  refine(xY R g cap P _ q.s vK zM9.out.ctx).mono ?_;rintro e w1 ⟨rfl,hc1,hk1⟩;rw[H1.out];have hi1:=zM9.out.read hc1 hk1;have HK1:Hid (zC G R w w1):=hk1.of_size (pf hGl);have hG1:=hi1.gd.lt;have HC1:=zA hc1;have HI1:=zA hi1;clear hc1 hk1 hi1;go_wp2_with fail
  refine(xY R g cap P _ (zD P vK q.s).2 vO HC1.out).mono ?_;rintro e w2 ⟨rfl,hc2,hk2⟩;rw[H2.out];have hi2:Ya w2 R g cap P G root (q.to (zD P vO (zD P vK q.s).2).2):=HI1.out.read hc2 hk2;have HK2:Hid (zC G R w w2):=HK1.out.trans (hk2.of_size (pf hG1));obtain⟨gc2,gc3,gfz⟩:=Ue hi2.gd;have hG2:=hi2.gd.lt;have HI2:=zA hi2;clear hc2 hk2 hi2 HI1 HC1;generalize (zD P vO (zD P vK q.s).2).2=s2 at *;simp only[GS.to]at gc2 gc3;go_wp2_with fail
  refine(uw _ R g cap P s2 (yE.set (yE.set HI2.out.ctx nR ng) nR ng)).mono ?_;rintro e w3 ⟨rfl,hc3,hk3⟩;have hgd3:Gd w3 G q.nd root (q.tests+1) d:=Gd.keeps (zFN (Jw HI2.out.gd)) hk3 zM9.out.rG;have HK3:Hid (zC G R w w3):=HK2.out.trans ((zC.of_belowG (Below.setG.trans Below.setG)).trans (hk3.of_size (by simp only[zL];omega)));have HC3:=zA hc3;have HGd3:=zA hgd3;have hmo:=HM.out s2;clear hc3 hk3 hgd3 gc2 gc3 gfz HM;have hG3:=HGd3.out.lt;generalize hpt:vY P s2=y at *;obtain⟨x,s3⟩:=y;simp only at HF HC3 hmo;obtain⟨xk,xl,xr,xn,xm,xo,xu⟩:=x;simp only[kT];clear hpt;go_wp2_with fail
  refine(UD (w3.alloc _) G q.nd root (q.tests+1) d ⟨xk,xl,xr,xn,xm,xo,xu⟩ (Gd.alloc HGd3.out _) hnd).mono ?_;rintro e w4 ⟨rfl,hgd4,hb4⟩;have hi4:Ya w4 R g cap P G root ⟨s3,q.nd++[⟨xk,xl,xr,xn,xm,xo,xu⟩],q.tests+1,d⟩:=⟨(yE.alloc HC3.out _).belowG hb4 zM9.out.rG zM9.out.gG,hgd4,zM9.out.rG,zM9.out.gG⟩;have HI4:=zA hi4;have HK4:Hid (zC G R w w4):=HK3.out.trans ((zC.alloc (zC.refl _ _ _) (pf hG3) _).trans (zC.of_belowG hb4));clear hgd4 hb4 hi4;go_wp2_with fail
  go_ret
  rw[HF.out,HEx.out];refine⟨rfl,HI4.out,HK4.out,⟨by show q.s.1<=s3.1;omega,?_,by show 0<=q.tests+1;omega,?_⟩⟩
  ·show (q.nd++[_]).length+2*(P.length-s3.1)<=Yh P q+1
   unfold Yh;rw[tm,mj];omega
  ·show q.tests+1<=((q.nd++[_]).length:Int)
   rw[tm,mj];omega
 ·have hEx:∀(s:St) (x:zR),((q.tested d).to s).add x=⟨s,q.nd++[x],q.tests+1,q.dep⟩:=by intro s x;simp only[GS.tested,GS.to,GS.add];rw[tb hdp]
  have HEx:=zA hEx;clear hEx
  go_enter Tryz.func190,Tryz.ntmps190
  go_wp2_with fail
  refine(xY R g cap P _ q.s vK zM9.out.ctx).mono ?_;rintro e w1 ⟨rfl,hc1,hk1⟩;rw[H1.out];have hi1:=zM9.out.read hc1 hk1;have HK1:Hid (zC G R w w1):=hk1.of_size (pf hGl);have hG1:=hi1.gd.lt;have HC1:=zA hc1;have HI1:=zA hi1;clear hc1 hk1 hi1;go_wp2_with fail
  refine(xY R g cap P _ (zD P vK q.s).2 vO HC1.out).mono ?_;rintro e w2 ⟨rfl,hc2,hk2⟩;rw[H2.out];have hi2:Ya w2 R g cap P G root (q.to (zD P vO (zD P vK q.s).2).2):=HI1.out.read hc2 hk2;have HK2:Hid (zC G R w w2):=HK1.out.trans (hk2.of_size (pf hG1));obtain⟨gc2,gc3,gfz⟩:=Ue hi2.gd;have hG2:=hi2.gd.lt;have HI2:=zA hi2;clear hc2 hk2 hi2 HI1 HC1;generalize (zD P vO (zD P vK q.s).2).2=s2 at *;simp only[GS.to]at gc2 gc3;go_wp2_with fail
  refine(uw _ R g cap P s2 (yE.set HI2.out.ctx nR ng)).mono ?_;rintro e w3 ⟨rfl,hc3,hk3⟩;have hgd3:Gd w3 G q.nd root (q.tests+1) q.dep:=Gd.keeps (Jw HI2.out.gd) hk3 zM9.out.rG;have HK3:Hid (zC G R w w3):=HK2.out.trans ((zC.of_belowG (Below.setG)).trans (hk3.of_size (by simp only[zL];omega)));have HC3:=zA hc3;have HGd3:=zA hgd3;have hmo:=HM.out s2;clear hc3 hk3 hgd3 gc2 gc3 gfz HM;have hG3:=HGd3.out.lt;generalize hpt:vY P s2=y at *;obtain⟨x,s3⟩:=y;simp only at HF HC3 hmo;obtain⟨xk,xl,xr,xn,xm,xo,xu⟩:=x;simp only[kT];clear hpt;go_wp2_with fail
  refine(UD (w3.alloc _) G q.nd root (q.tests+1) q.dep ⟨xk,xl,xr,xn,xm,xo,xu⟩ (Gd.alloc HGd3.out _) hnd).mono ?_;rintro e w4 ⟨rfl,hgd4,hb4⟩;have hi4:Ya w4 R g cap P G root ⟨s3,q.nd++[⟨xk,xl,xr,xn,xm,xo,xu⟩],q.tests+1,q.dep⟩:=⟨(yE.alloc HC3.out _).belowG hb4 zM9.out.rG zM9.out.gG,hgd4,zM9.out.rG,zM9.out.gG⟩;have HI4:=zA hi4;have HK4:Hid (zC G R w w4):=HK3.out.trans ((zC.alloc (zC.refl _ _ _) (pf hG3) _).trans (zC.of_belowG hb4));clear hgd4 hb4 hi4;go_wp2_with fail
  go_ret
  rw[HF.out,HEx.out];refine⟨rfl,HI4.out,HK4.out,⟨by show q.s.1<=s3.1;omega,?_,by show 0<=q.tests+1;omega,?_⟩⟩
  ·show (q.nd++[_]).length+2*(P.length-s3.1)<=Yh P q+1
   unfold Yh;rw[tm,mj];omega
  ·show q.tests+1<=((q.nd++[_]).length:Int)
   rw[tm,mj];omega
theorem zBD(n:Nat):Qy R g cap P G root n:=by
 induction n with
 | zero=>intro w q d zLT _ hn;have:=zLT.ctx.at';omega
 | succ n ih =>
   intro w q d zLT zLW hn;cases h1:(zD P vK q.s).1
   ·cases h2:(zD P vO (zD P vK q.s).2).1
    ·exact zw R g cap P G root n w q d zLT zLW h1 h2
    ·exact zx R g cap P G root n (zHI R g cap P G root n (Dn R g cap P G root n ih)) w q d zLT zLW hn h1 h2
   ·exact zBC R g cap P G root n ih w q d zLT zLW hn h1
theorem zGG(n:Nat):KO R g cap P G root n :=
 zHI R g cap P G root n (Dn R g cap P G root n (zBD R g cap P G root n))
def qE(P:List PT)(s:St):Int × GS:=Xo P P.length ⟨s,[],0,0⟩ 0
def ZH(nv:Value)(y:Int × GS):Value:=.agg #[nv,.int .i64 y.1,.int .i64 y.2.tests,.int .i64 y.2.dep]
theorem yS{b b':Nat}{e:TypeId}{size:Nat}{v:Value}{n:Nat}{xs:List Value}(h:w.ownsRow b e size v n xs)(hb:b'<=b):w.ownsRow b' e size v n xs:=by
 refine⟨h.1,?_⟩;rcases h.2 with h1|⟨g,cap,yL,h1,h2,r⟩
 ·exact .inl h1
 ·exact .inr ⟨g,cap,yL,h1,ty hb h2,r⟩
theorem zFH(w:World)(R g cap:Nat)(P:List PT)(s:St)(h:vD w R g cap P s) :
 Calls Tryz.prog 152 #[.pointer (some ⟨R,0,none⟩)] w fun e w'=>∃nv,e=.returned (ZH nv (qE P s))/\w'.ownsRow w.heap.size 238 7 nv (qE P s).2.nd.length (fA (qE P s).2.nd)/\vD w' R g cap P (qE P s).2.s/\zC w.heap.size R w w':=by
 have hR:=h.rlt;have hg:=h.glt;have hmany:=h.many;have hat:=h.at';have HC:=zA h;have HAlt:=zA (zGG R g cap P (w.heap.size+1) 0 P.length);have n0:w.heap.size≠R:=by omega
 have n1:w.heap.size+1≠R:=by omega
 have HF:Hid (qE P s=Xo P P.length ⟨s,[],0,0⟩ 0):=rfl;generalize qE P s=F at *;clear h
 go_enter Tryz.func152,Tryz.ntmps152
 go_wp2_with fail
 have zLS:Gd ((w.alloc (.cells #[.slice none 0 0,.int .i64 0,.int .i64 0,.int .i64 0] 182)).alloc (.cells #[.slice none 0 0,.int .i64 0,.int .i64 0,.int .i64 0] 182)) (w.heap.size+1) [] 0 0 0 :=
  ⟨.slice none 0 0,by
   have h1:=zG (w.alloc (.cells #[.slice none 0 0,.int .i64 0,.int .i64 0,.int .i64 0] 182)) (.cells #[.slice none 0 0,.int .i64 0,.int .i64 0,.int .i64 0] 182);rw[show (w.alloc (.cells #[.slice none 0 0,.int .i64 0,.int .i64 0,.int .i64 0] 182)).heap.size=w.heap.size+1 by simp]at h1;exact h1,ba _ _ _ _⟩
 refine(HAlt.out _ ⟨s,[],0,0⟩ 0 ⟨yE.alloc (yE.alloc HC.out _) _,zLS,by omega,by omega⟩ ⟨lh 0,lh 0,by show 0+2*(P.length-s.1)<=9000;omega,by decide,by omega⟩ (by omega)).mono ?_;rintro e w1 ⟨rfl,hi1,hk1,_⟩;rw[<-HF.out];rw[<-HF.out]at hi1;have HT1:Hid (zC w.heap.size R w w1):=zC.trans (zC.new (zC.new (zC.refl _ _ _))) (hk1.mono (by omega));have q0:=fun o=>hk1.cell (p:=⟨w.heap.size,o,none⟩) (by simp) n0;have r0:=fun o=>hk1.frozen (p:=⟨w.heap.size,o,none⟩) (by simp) n0;obtain⟨hc1,⟨nv,hgb,zLM⟩,_,_⟩:=hi1;unfold rS at hgb;have cz:=fun j=>f9 _ _ j _ _ _ hgb;have fz:∀o,w1.frozen? ⟨w.heap.size+1,o,none⟩=false:=fun o=>by simp[World.frozen?,hgb]
 have HC1:=zA hc1;have HO1:=zA zLM;have m0:w.heap.size≠g:=by omega
 have m1:w.heap.size+1≠g:=by omega
 have hform:nv=.slice none 0 0\/∃gg n c,nv=.slice (some ⟨gg,0,none⟩) n c:=by
  rcases zLM.2 with ⟨h1,_⟩|⟨gg,c,_,h1,_⟩
  ·exact .inl h1
  ·exact .inr ⟨gg,_,c,h1⟩
 clear zLS hk1 hgb zLM hc1 HAlt;rcases hform with rfl|⟨gg,gn,gc,rfl⟩
 ·go_wp2_with fail
  refine pd (v:=ZH (.slice none 0 0) F) (by simp (maxDischargeDepth:=8) [results,Tryz.results152,go_sem,ZH,q0]) rfl ⟨_,rfl,?_,?_,?_⟩
  ·exact yS (yY (yY (yY (yY (yY HO1.out (by omega)) (by omega)) (by omega)) (by omega)) (by omega)) (by omega)
  ·exact(yE.set (yE.set (yE.set (yE.set (yE.set HC1.out n1 m1) n0 m0) n0 m0) n0 m0) n0 m0)
  ·exact(zC.set (zC.set (zC.set (zC.set (zC.set HT1.out (mq _ _)) (j1 _)) (j1 _)) (j1 _)) (j1 _))
 ·go_wp2_with fail
  refine pd (v:=ZH (.slice (some ⟨gg,0,none⟩) gn gc) F) (by simp (maxDischargeDepth:=8) [results,Tryz.results152,go_sem,ZH,q0]) rfl ⟨_,rfl,?_,?_,?_⟩
  ·exact yS (yY (yY (yY (yY (yY HO1.out (by omega)) (by omega)) (by omega)) (by omega)) (by omega)) (by omega)
  ·exact(yE.set (yE.set (yE.set (yE.set (yE.set HC1.out n1 m1) n0 m0) n0 m0) n0 m0) n0 m0)
  ·exact(zC.set (zC.set (zC.set (zC.set (zC.set HT1.out (mq _ _)) (j1 _)) (j1 _)) (j1 _)) (j1 _))
end Go.Proofs.YtnbpdffdnphbeabGreatDoor
