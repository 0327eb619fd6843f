import Derived.Test.YtnbpdffdnphbeaaGreatDoorDBase
set_option maxHeartbeats 4000000
set_option maxRecDepth 100000
namespace Go.Proofs.YtnbpdffdnphbeaaGreatDoor
open Go.RowKit
theorem zB4(l:Bs)(w:World)(hl4:l.length<=4000)(ls:List zF)(hA:yP ls (yX l))(zIP:∀u∈yX l,cA u 0=zR->zB6 u) :
 Calls Tryz.prog 40 #[.string ⟨l.toArray⟩] w fun e w'=>∃b rs,e=.returned (.pointer (some ⟨b,0,none⟩))/\cU w' b (yX l) (qC (yX l)++qM (yX l)) (qC (yX l)).length rs/\rs.map Prod.fst=vO (qC (yX l)++qM (yX l)) (yX l)/\Below w.heap.size w w':=by
 obtain⟨i0,hi0,hz0,hz1,hz2⟩:=dp Zr;obtain⟨i1,hj0,hj1,hj2,hj3⟩:=dp jw
 have HL:Hid (∀w:World,Calls Tryz.prog 63 #[.string ⟨l.toArray⟩] w fun e w'=>∃a c,e=.returned (.slice a (yX l).length c)/\bG w' a (yX l)/\Below w.heap.size w w'):=fun w=>by
  refine(JP l w hl4).mono ?_;rintro e w' ⟨v,rfl,h1,h2⟩;obtain⟨a,c,rfl,h3⟩:=Dy h1 (tx (kY l 0) hl4);exact⟨a,c,rfl,h3,h2⟩
 have hus:(yX l).length<=4000:=by
  have h1:=XO (yR l 0) 0 0;have h2:=kY l 0;unfold yX;rw[ms];exact tx h1 (tx h2 hl4)
 generalize yX l=us at *;have HA:=zA hA;have HOk:=zA zIP;clear hA zIP hl4
 go_enter Tryz.func40,Tryz.ntmps40
 go_wp2_with fail
 refine(HL.out _).mono ?_;rintro e w1 ⟨la,lc,rfl,zIT,hb1⟩;have HRw:=zA zIT;have HB1:=zA hb1;have zII:=zIT.few;have hs1:=hb1.size;clear zIT hb1 HL;go_wp2_with fail
 go_loopw [4] (fun iv wr=>∃(i:Nat) (acc:List Bs) (nv:Value),i<=us.length/\acc.length<=i/\iv=.int .i64 i/\Hid (wr.heap[w1.heap.size]? = some (bD (.slice la us.length lc) nv 0 (.slice none 0 0)))/\Hid (wr.ownsRow (w1.heap.size+1) 9 1 nv acc.length (mG acc))/\Hid (Below w1.heap.size w1 wr)/\Hid (XW us (us.length-i) i acc=qC us)) (fun iv _=>us.length-(intOf iv).toNat)
 case atStart =>
  refine⟨0,[],.slice none 0 0,tr _,t9 _,rfl,?_,zA (lk _ _ _ _),?_,zA rfl⟩
  ·exact zM _ _
  ·exact ge (t9 _) _
 case round =>
  obtain⟨i,acc,nv,hi,hacc,rfl,HG,HO,HB,HE⟩:=hrel;obtain⟨d0,d1,d2,d3,dz⟩:=gD HG.out;have hbl:=zP d0;by_cases zI6:i<us.length
  ·have hRr:=HRw.out.below HB.out
   obtain⟨gl,g,o,cu,rfl,zIR,zIA,hlc,hcm,hsm⟩:=hRr.at zI6;have hx:=HA.out.get i zI6;have h2:=hx.two;have hc0:=(zIA.tok (show 0<(uA us i).length by omega)).2;have hc1:=(zIA.tok (show 1<(uA us i).length by omega)).1;rw[my,pq]at hc0;rw[du]at hc1;have il0:(0:Int)<((uA us i).length:Int):=by omega
   have il1:(1:Int)<((uA us i).length:Int):=by omega
   have hE:=HE.out;rw[GC us i acc zI6]at hE;have HE2:=zA hE;clear HE hE hRr hx zIA;by_cases k1:cA (uA us i) 0=xK\/cA (uA us i) 0=xV
   ·have HE3:Hid (XW us (us.length-(i+1)) (i+1) (acc++[tA (uA us i) 1])=qC us):=by have:=HE2.out;rw[tl k1]at this;exact this
    clear HE2;generalize tA (uA us i) 1=nm at *;by_cases k2:cA (uA us i) 0=xK
    ·rw[k2]at hc0
     simp only[xK]at hc0;clear k1 k2;have a1:some w1.heap.size≠nv.ownBlock:=fun e=>by have h1:=(zQ HO.out w1.heap.size e.symm).1;omega
     go_wp2_with fail
     go_region_law ((refine step_append_lies _ (by rfl) _ _ _ (by rfl) (w1.heap.size+1) 9 i0 _ 1 16 Tryz.underlying37 hi0 hz0 hz1 hz2 rfl (by decide) nv acc.length (mG acc) (by rfl) (HO.out.drew.alloc _) ⟨wr.heap.size,0,none⟩ 1 1 [.string ⟨nm.toArray⟩] (by rfl) (by rfl) (zZ _ _ _ _ rfl) (by simp[Value.oneCell']) (by decide) (by unfold maxLen;omega) (by omega) (by simp;omega) (wr.heap.size+1) (by simp) ?_;intro gg cap w2 zI9 zI7 zJ8 zI6;have hG2:=Qr zI7 HG.out a1;obtain⟨-,c1',-,-,fzz⟩:=gD hG2;have fz1:=fzz 1))
     all_goals
      have HG2:=zA (KH (v:=.slice (some ⟨gg,0,none⟩) (acc.length+1) cap) hG2)
      have HO2:Hid ((w2.setCell ⟨w1.heap.size,1,none⟩ (.slice (some ⟨gg,0,none⟩) (acc.length+1) cap)).ownsRow (w1.heap.size+1) 9 1 (.slice (some ⟨gg,0,none⟩) (acc.length+1) cap) (acc++[nm]).length (mG (acc++[nm]))):=by
       unfold Hid;rw[dR,tq];exact xA zI9 (mh _)
      have HB2:Hid (Below w1.heap.size w1 (w2.setCell ⟨w1.heap.size,1,none⟩ (.slice (some ⟨gg,0,none⟩) (acc.length+1) cap))) :=
       ((HB.out.drew.alloc (p8 hbl) _).grown zI7 (by show w1.heap.size<=(wr.drew.alloc _).heap.size;simp;omega) (fun k hk=>by have h1:=(zQ HO.out k hk).1;omega)).setCell (p:=⟨w1.heap.size,1,none⟩) (t9 _) _
      clear hG2 zI9 zI7 c1' fzz fz1;go_wp2_with fail
      go_roundw
      case rel=>exact⟨i+1,acc++[nm],_,by omega,by simp;omega,by go_num,HG2,HO2,HB2,HE3⟩
      case measure=>simp[intOf];omega
    ·have k3:cA (uA us i) 0=xV:=k1.resolve_left k2
     rw[k3]at hc0;simp only[xV]at hc0;clear k1 k2 k3;have a1:some w1.heap.size≠nv.ownBlock:=fun e=>by have h1:=(zQ HO.out w1.heap.size e.symm).1;omega
     go_wp2_with fail
     go_region_law ((refine step_append_lies _ (by rfl) _ _ _ (by rfl) (w1.heap.size+1) 9 i0 _ 1 16 Tryz.underlying37 hi0 hz0 hz1 hz2 rfl (by decide) nv acc.length (mG acc) (by rfl) (HO.out.drew.alloc _) ⟨wr.heap.size,0,none⟩ 1 1 [.string ⟨nm.toArray⟩] (by rfl) (by rfl) (zZ _ _ _ _ rfl) (by simp[Value.oneCell']) (by decide) (by unfold maxLen;omega) (by omega) (by simp;omega) (wr.heap.size+1) (by simp) ?_;intro gg cap w2 zI9 zI7 zJ8 zI6;have hG2:=Qr zI7 HG.out a1;obtain⟨-,c1',-,-,fzz⟩:=gD hG2;have fz1:=fzz 1))
     all_goals
      have HG2:=zA (KH (v:=.slice (some ⟨gg,0,none⟩) (acc.length+1) cap) hG2)
      have HO2:Hid ((w2.setCell ⟨w1.heap.size,1,none⟩ (.slice (some ⟨gg,0,none⟩) (acc.length+1) cap)).ownsRow (w1.heap.size+1) 9 1 (.slice (some ⟨gg,0,none⟩) (acc.length+1) cap) (acc++[nm]).length (mG (acc++[nm]))):=by
       unfold Hid;rw[dR,tq];exact xA zI9 (mh _)
      have HB2:Hid (Below w1.heap.size w1 (w2.setCell ⟨w1.heap.size,1,none⟩ (.slice (some ⟨gg,0,none⟩) (acc.length+1) cap))) :=
       ((HB.out.drew.alloc (p8 hbl) _).grown zI7 (by show w1.heap.size<=(wr.drew.alloc _).heap.size;simp;omega) (fun k hk=>by have h1:=(zQ HO.out k hk).1;omega)).setCell (p:=⟨w1.heap.size,1,none⟩) (t9 _) _
      clear hG2 zI9 zI7 c1' fzz fz1;go_wp2_with fail
      go_roundw
      case rel=>exact⟨i+1,acc++[nm],_,by omega,by simp;omega,by go_num,HG2,HO2,HB2,HE3⟩
      case measure=>simp[intOf];omega
   ·have HE3:Hid (XW us (us.length-(i+1)) (i+1) acc=qC us):=by have:=HE2.out;rw[tg k1]at this;exact this
    have b1:(cA (uA us i) 0==[110,117,109])=false:=by simpa[xK] using fun h=>k1 (.inl h)
    have b2:(cA (uA us i) 0==[102,108,97,103])=false:=by simpa[xV] using fun h=>k1 (.inr h)
    clear HE2 k1;generalize cA (uA us i) 0=cl at *;go_wp2_with fail
    go_roundw
    case rel=>exact⟨i+1,acc,nv,by omega,by omega,by go_num,HG,HO,HB,HE3⟩
    case measure=>simp[intOf];omega
  ·have HI:Hid (acc=qC us):=by have:=HE.out;rw[show us.length-i=0 by omega]at this;exact this
   clear HE;obtain⟨na,nc,rfl⟩:=yH HO.out;have HH:=zA (fun w (h:bG w la us)=>Fp w la lc ls us h HA.out);have HG2:=zA (zE7 (n:=(acc.length:Int)) HG.out);have HO2:=zA (xA HO.out (b:=w1.heap.size) (o:=2) (u:=.int .i64 (acc.length:Int)) (mh _));have HB2:Hid (Below w1.heap.size w1 (wr.setCell ⟨w1.heap.size,2,none⟩ (.int .i64 (acc.length:Int)))):=HB.out.setCell (p:=⟨w1.heap.size,2,none⟩) (t9 _) _;have dz2:=dz 2;go_wp2_with fail
   clear HG HO HB;generalize wr.setCell ⟨w1.heap.size,2,none⟩ (.int .i64 (acc.length:Int))=wA at *;refine(HH.out wA (HRw.out.below HB2.out)).mono ?_;rintro e w2 ⟨v2,rfl,zIB,hle2,hb2⟩;have hG3:w2.heap[w1.heap.size]? = some (bD (.slice la us.length lc) (.slice na acc.length nc) (acc.length:Int) (.slice none 0 0)):=by rw[hb2.block _ (yK HG2.out)];exact HG2.out
   have HG3:=zA hG3;have HO3:=zA (kI HO2.out hb2);have HB3:Hid (Below w1.heap.size w1 w2):=HB2.out.trans (hb2.mono HB2.out.size);obtain⟨f0,f1,f2,f3,fz⟩:=gD hG3;have fz1:=fz 1;have hbl3:=yK hG3;have HHd:=zA zIB;generalize hHd:qM us=hd at *;have HHe:=zA hHd;clear hHd HG2 HO2 HB2 hb2 hG3 zIB d0 d1 d2 d3 dz dz2;have a1:some w1.heap.size≠(Value.slice na acc.length nc).ownBlock:=fun e=>by have h1:=(zQ HO3.out w1.heap.size e.symm).1;omega
   obtain⟨oa2,oc2,rfl⟩:=yH HHd.out
   go_wp2_with (at_builtin;refine rC rfl _ _ 37 rfl (w1.heap.size+1) 9 i0 _ 1 16 Tryz.underlying37 hi0 hz0 hz1 hz2 rfl (by decide) _ _ _ rfl HO3.out _ hd.length (mG hd) _ rfl HHd.out ?c2 ?c3 ?c4 ?c5 ?_)
   case c2=>intro u hu;simp[mG]at hu;obtain⟨x,_,rfl⟩:=hu;rfl
   case c3=>unfold maxLen;omega
   case c4=>omega
   case c5=>omega
   intro v3 w3 zID hgrow3;obtain⟨na3,nc3,rfl⟩:=yH zID;have hG4:w3.heap[w1.heap.size]? = some (bD (.slice la us.length lc) (.slice na acc.length nc) (acc.length:Int) (.slice none 0 0)):=by rw[hgrow3.block _ hbl3 a1];exact HG3.out
   obtain⟨-,c1',-,-,fz4⟩:=gD hG4;have fz5:=fz4 1;have HG5:=zA (KH (v:=.slice na3 (acc.length+hd.length) nc3) hG4)
   have HO5:Hid ((w3.setCell ⟨w1.heap.size,1,none⟩ (.slice na3 (acc.length+hd.length) nc3)).ownsRow (w1.heap.size+1) 9 1 (.slice na3 (acc.length+hd.length) nc3) (acc++hd).length (mG (acc++hd))):=by
    unfold Hid;rw[tq,show mG (acc++hd)=mG acc++mG hd by simp[mG]];exact xA zID (mh _)
   have HB5:Hid (Below w1.heap.size w1 (w3.setCell ⟨w1.heap.size,1,none⟩ (.slice na3 (acc.length+hd.length) nc3))):=(HB3.out.grown hgrow3 (p8 hbl3) (fun k hk=>by have h1:=(zQ HO3.out k hk).1;omega)).setCell (p:=⟨w1.heap.size,1,none⟩) (t9 _) _;clear HG3 HO3 HB3 hG4 zID hgrow3 fz4 fz f0 f1 f2 f3 fz1 hbl3 HHd a1 HH;go_wp2_with fail
   generalize w3.setCell ⟨w1.heap.size,1,none⟩ (.slice na3 (acc.length+hd.length) nc3)=wR at *;have hacl:acc.length+hd.length<=8000:=by omega
   have HI2:Hid (qC us++qM us=acc++hd/\(qC us).length=acc.length):=by rw[HHe.out,HI.out];exact⟨rfl,rfl⟩
   generalize hNm:acc++hd=names at *;have hnl:acc.length+hd.length=names.length:=by rw[<-hNm,tq]
   have hnl2:names.length<=8000:=by omega
   rw[hnl]at HG5 HO5;generalize hac:acc.length=insn at *;clear hNm HI hnl;have hsR:=HB5.out.size
   have HN5:Hid (∀wr,zB wR.heap.size w1.heap.size wR wr->oS wr na3 names):=by
    obtain⟨a9,c9,e9,hsv⟩:=oB HO5.out (by omega);obtain⟨rfl,rfl⟩:na3=a9/\nc3=c9:=by simpa using e9
    have hge:=zQ HO5.out
    exact fun wr hk=>hsv.keeps hk (t9 _) (fun g hg=>by
     subst hg;have h1:=(hge g rfl).1;omega)
   have HRl:Hid (∀wr,zB wR.heap.size w1.heap.size wR wr->bG wr la us):=fun wr hk=>HRw.out.below (HB5.out.trans (hk.toBelow hsR))
   go_loopw [6] (fun iv wr=>∃(i:Nat) (acc:List RX) (rv:Value),i<=us.length/\acc.length<=i/\iv=.int .i64 i/\Hid (wr.heap[w1.heap.size]? = some (bD (.slice la us.length lc) (.slice na3 names.length nc3) (insn:Int) rv))/\Hid (wr.ownsRow wR.heap.size 115 4 rv acc.length (KE acc))/\Hid (zB wR.heap.size w1.heap.size wR wr)/\Hid (∀x∈acc,nU wr x)/\Hid (oV names us (us.length-i) i (acc.map Prod.fst)=vO names us)) (fun iv _=>us.length-(intOf iv).toNat)
   case atStart=>exact⟨0,[],.slice none 0 0,tr _,t9 _,rfl,HG5,zA (lk _ _ _ _),zA (zB.refl _ _ _),zA (fun x hx=>by simp at hx),zA rfl⟩
   case round =>
    clear hacc hac;obtain⟨i,acc,rv,hi,hacc,rfl,HG,HO,HKp,HRu,HE⟩:=hrel;obtain⟨d0,d1,d2,d3,dz⟩:=gD HG.out;have hbl:=zP d0;by_cases zI6:i<us.length
    ·obtain⟨gl,g,o,cu,rfl,zIR,zIA,hlc,hcm,hsm⟩:=(HRl.out wr HKp.out).at zI6
     have hx:=HA.out.get i zI6;have h2:=hx.two;have hc0:=(zIA.tok (show 0<(uA us i).length by omega)).2;have hc1:=(zIA.tok (show 1<(uA us i).length by omega)).1;rw[my,pq]at hc0;rw[du]at hc1;have il0:(0:Int)<((uA us i).length:Int):=by omega
     have il1:(1:Int)<((uA us i).length:Int):=by omega
     have hE:=HE.out;rw[BB names us i _ zI6]at hE;have HE2:=zA hE;have HSg:=zA zIA;clear HE hE hx zIA;by_cases k1:cA (uA us i) 0=zR
     ·have HE3:Hid (oV names us (us.length-(i+1)) (i+1) (acc.map Prod.fst++[dK names (uA us i)])=vO names us):=by have:=HE2.out;rw[tl k1]at this;exact this
      have zIP:=HOk.out _ (Xk zI6) k1;rw[k1]at hc0;simp only[zR]at hc0;have HWh:=zA (fun w h=>wC (uA us i) g o cu w h (by omega) hlc);rw[zIP.wh]at HWh;have w5:=zIP.lo;have wlt:=zIP.hi;have hc3:=(HSg.out.tok (show 3<(uA us i).length by omega)).1;rw[show 3*3=9 from rfl]at hc3;have il3:(3:Int)<((uA us i).length:Int):=by omega
      have HNam:Hid (∀w',Below wr.heap.size wr w'->eA w' w1.heap.size names):=fun w' hb=>eA.below ⟨na3,nc3,d1,HN5.out wr HKp.out⟩ hb;have HD:Hid (dK names (uA us i)=⟨tA (uA us i) 1,zH names (tA (uA us i) 3),rE names (((uA us i).drop 5).take (iZ (uA us i)-5)),vN names ((uA us i).length+1) ((uA us i).drop (iZ (uA us i)+1))⟩):=rfl;have HSum:=zA zIP.sum;have HGood:=zA zIP.good;have hgl:g<wr.heap.size:=zP hc0;have n0:wr.heap.size≠g:=by omega
      have n1:wr.heap.size≠w1.heap.size:=by omega
      clear k1 HE2 zIP;generalize dK names (uA us i)=dr at *;generalize iZ (uA us i)=wh at *;generalize tA (uA us i) 1=lab at *;generalize tA (uA us i) 3=cc at *;have HAt:=zA (fun w' hb=>zE9 w' w1.heap.size names cc (HNam.out w' hb));generalize zH names cc=hd1 at *;go_wp2_with fail
      refine(HWh.out wr HSg.out).mono ?_;rintro e w' ⟨rfl,hw⟩;obtain rfl:=hw.symm;go_wp2_with fail
      go_cut [9] from 88 to 144 (fun v wx=>v=.pointer (some ⟨wr.heap.size,0,none⟩)/\Hid (wx.heap[wr.heap.size]? = some (bN lab hd1 (.slice none 0 0) (.slice none 0 0)))/\Hid (Below wr.heap.size wr wx))
      case first =>
       go_region_with (go_at_call 79
                       first
                        | refine(HAt.out _ (me (tj _ _))).mono ?_
                        | refine(HAt.out _ (me (ge (t9 _) _))).mono ?_
                       rintro e w4 ⟨rfl,hw⟩;obtain rfl:=hw.symm)
       all_goals
        go_wp2_with fail
        go_meet
        exact⟨rfl,zA (zM _ _),zA (me (ge (t9 _) _))⟩
      case rest =>
       obtain⟨rfl,HRu1,HBc⟩:=hcut;have HPa:=zA (fun w' (hb:Below wr.heap.size wr w')=>zCJ w' w1.heap.size names (((uA us i).drop 5).take (wh-5)) g (o+5*3) (cu-5) (((HSg.out.drop 5).take (wh-5)).below' hb) (by rw[p9,ty];omega) HSum.out (HNam.out w' hb));have HOf:=zA (fun w' (hb:Below wr.heap.size wr w')=>zCO ((uA us i).length+1) ((uA us i).drop (wh+1)) g (o+(wh+1)*3) (cu-(wh+1)) w' w1.heap.size names ((HSg.out.drop (wh+1)).below' hb) (by rw[ty];omega) (by rw[ty];omega) (by omega) HGood.out (HNam.out w' hb));have lOf:=nD names _ _ HGood.out;have lPa:(((uA us i).drop 5).take (wh-5)).length=wh-5:=by rw[p9,ty];omega
       rw[lPa]at HPa;rw[ty]at HOf lOf;generalize rE names (((uA us i).drop 5).take (wh-5))=PP at *;generalize vN names ((uA us i).length+1) ((uA us i).drop (wh+1))=SS at *;have r1:=HRu1.out;unfold bN at r1;have rz:∀j,wc.frozen? ⟨wr.heap.size,j,none⟩=false:=fun j=>by simp[World.frozen?,r1]
       have rc2:wc.cell? ⟨wr.heap.size,2,none⟩=some (.slice none 0 0):=(zD r1 2).trans rfl;have rz2:=rz 2;have hlc2:=yK r1;clear r1 rz HSum HGood HAt;go_wp2_with fail
       refine(HPa.out wc HBc.out).mono ?_;rintro e w5 ⟨pv,rfl,hownP,hleP,hbP⟩;obtain⟨pa,pc,rfl,hcP⟩:=jP hownP;have r5:w5.heap[wr.heap.size]? = some (bN lab hd1 (.slice none 0 0) (.slice none 0 0)):=by rw[hbP.block _ hlc2];exact HRu1.out
       have rz5:w5.frozen? ⟨wr.heap.size,2,none⟩=false:=by unfold bN at r5;simp[World.frozen?,r5]
       have rc5:w5.cell? ⟨wr.heap.size,2,none⟩=some (.slice none 0 0):=by unfold bN at r5;exact(zD r5 2).trans rfl
       have HR6:Hid ((w5.setCell ⟨wr.heap.size,2,none⟩ (.slice pa PP.length pc)).heap[wr.heap.size]? = some (bN lab hd1 (.slice pa PP.length pc) (.slice none 0 0))):=by
        unfold Hid bN;unfold bN at r5;rw[m6 w5 wr.heap.size 2 _ _ _ r5];simp
       have HC6:Hid (uS (w5.setCell ⟨wr.heap.size,2,none⟩ (.slice pa PP.length pc)) 202 pa (jL PP)):=zA (hcP.set (by unfold bN at r5;exact r5) (by decide));have HB6:Hid (Below wr.heap.size wr (w5.setCell ⟨wr.heap.size,2,none⟩ (.slice pa PP.length pc))):=(HBc.out.trans (hbP.mono (p8 hlc2))).setCell (p:=⟨wr.heap.size,2,none⟩) (t9 _) _;clear hownP hbP hcP r5 HRu1 HBc HPa rc2 rz2;go_wp2_with fail
       generalize w5.setCell ⟨wr.heap.size,2,none⟩ (.slice pa PP.length pc)=w6 at *;have hl6:=yK HR6.out;refine(HOf.out w6 HB6.out).mono ?_;rintro e w7 ⟨sv,rfl,hownS,hbS⟩;obtain⟨sa,sc,rfl,hcS⟩:=jP hownS;have r7:w7.heap[wr.heap.size]? = some (bN lab hd1 (.slice pa PP.length pc) (.slice none 0 0)):=by rw[hbS.block _ hl6];exact HR6.out
       have rz7:w7.frozen? ⟨wr.heap.size,3,none⟩=false:=by unfold bN at r7;simp[World.frozen?,r7]
       have rc7:w7.cell? ⟨wr.heap.size,3,none⟩=some (.slice none 0 0):=by unfold bN at r7;exact(zD r7 3).trans rfl
       have HR8:Hid ((w7.setCell ⟨wr.heap.size,3,none⟩ (.slice sa SS.length sc)).heap[wr.heap.size]? = some (bN lab hd1 (.slice pa PP.length pc) (.slice sa SS.length sc))):=by
        unfold Hid bN;unfold bN at r7;rw[m6 w7 wr.heap.size 3 _ _ _ r7];simp
       have HC8:Hid (uS (w7.setCell ⟨wr.heap.size,3,none⟩ (.slice sa SS.length sc)) 202 pa (jL PP)):=zA ((HC6.out.below hbS).set (by unfold bN at r7;exact r7) (by decide));have HS8:Hid (uS (w7.setCell ⟨wr.heap.size,3,none⟩ (.slice sa SS.length sc)) 275 sa (kG SS)):=zA (hcS.set (by unfold bN at r7;exact r7) (by decide));have HB8:Hid (Below wr.heap.size wr (w7.setCell ⟨wr.heap.size,3,none⟩ (.slice sa SS.length sc))):=(HB6.out.trans (hbS.mono (p8 hl6))).setCell (p:=⟨wr.heap.size,3,none⟩) (t9 _) _;clear hownS hbS hcS r7 HR6 HC6 HB6 HOf rz5 rc5;go_wp2_with fail
       generalize w7.setCell ⟨wr.heap.size,3,none⟩ (.slice sa SS.length sc)=w8 at *;clear rz7 rc7 hl6;have hg8:w8.heap[w1.heap.size]? = some (bD (.slice (some ⟨gl,0,none⟩) us.length lc) (.slice na3 names.length nc3) (insn:Int) rv):=by rw[HB8.out.block _ hbl];exact HG.out
       have HG8:=zA hg8;obtain⟨e0,e1,e2,e3,ez⟩:=gD hg8;have ez3:=ez 3;have r8:=HR8.out;unfold bN at r8;have q0:=(zD r8 0);have q1:=(zD r8 1);have q2:=(zD r8 2);have q3:=(zD r8 3);have hl8:=yK r8;have HO8:=zA (kI HO.out HB8.out);have HbR:Hid (w1.heap.size<wR.heap.size):=yK HG5.out;have a1:some w1.heap.size≠rv.ownBlock:=fun e=>by have h1:=(zQ HO.out w1.heap.size e.symm).1;have h2:=HbR.out;omega
       have hszR:wR.heap.size<=wr.heap.size:=HKp.out.size;have hszR8:wR.heap.size<=w8.heap.size:=by omega
       have hb8:w1.heap.size<w8.heap.size:=by omega
       have n8:w8.heap.size≠w1.heap.size:=by omega
       have n8':¬w1.heap.size=w8.heap.size:=by omega
       have n9:w8.heap.size≠wr.heap.size:=by omega
       clear hg8 ez r8 zIR hc0 hc1 hc3;simp only[cy,cg,cw]at q0 q1 q2 q3
       go_region_law ((refine step_append_lies _ (by rfl) _ _ _ (by rfl) wR.heap.size 115 i1 _ 4 72 Tryz.underlying117 hj0 hj1 hj2 hj3 rfl (by decide) rv acc.length (KE acc) (by rfl) (HO8.out.drew.alloc _) ⟨w8.heap.size,0,none⟩ 1 1 [.string ⟨lab.toArray⟩,.int .i64 hd1,.slice pa PP.length pc,.slice sa SS.length sc] (by rfl) (by rfl) (zZ _ _ _ _ rfl) (by simp[Value.oneCell']) (by decide) (by unfold maxLen;omega) (by omega) (by simp;omega) (w8.heap.size+1) (by simp) ?_;intro gg cap w9 zI9 zI7 zJ8 hlt9;have hG9:=Qr zI7 HG8.out a1;obtain⟨-,-,-,c3',fzz⟩:=gD hG9;have fz3:=fzz 3))
       all_goals
        have HG9:=zA (zE6 (v:=.slice (some ⟨gg,0,none⟩) (acc.length+1) cap) hG9)
        have HR9:Hid (∀x∈acc++[((⟨lab,hd1,PP,SS⟩,.slice pa PP.length pc,.slice sa SS.length sc):RX)],nU (w9.setCell ⟨w1.heap.size,3,none⟩ (.slice (some ⟨gg,0,none⟩) (acc.length+1) cap)) x):=fun x hx=>by
         rcases pt.1 hx with h|h
         ·exact((HRu.out x h).below HB8.out).step HO8.out zI7 hG9
         ·obtain rfl:=pu.1 h
          exact nU.step (w8:=w8) ⟨⟨pa,pc,rfl,HC8.out⟩,⟨sa,sc,rfl,HS8.out⟩,(by show PP.length<=10000;omega),(by show SS.length<=10000;omega)⟩ HO8.out zI7 hG9
        have HO9:Hid ((w9.setCell ⟨w1.heap.size,3,none⟩ (.slice (some ⟨gg,0,none⟩) (acc.length+1) cap)).ownsRow wR.heap.size 115 4 (.slice (some ⟨gg,0,none⟩) (acc.length+1) cap) (acc++[((⟨lab,hd1,PP,SS⟩,.slice pa PP.length pc,.slice sa SS.length sc):RX)]).length (KE (acc++[((⟨lab,hd1,PP,SS⟩,.slice pa PP.length pc,.slice sa SS.length sc):RX)]))):=by
         unfold Hid;rw[zAD,tq];exact xA zI9 HbR.out
        have HK9:Hid (zB wR.heap.size w1.heap.size wR (w9.setCell ⟨w1.heap.size,3,none⟩ (.slice (some ⟨gg,0,none⟩) (acc.length+1) cap))) :=
         (HKp.out.trans (zB.of_below ((((HB8.out.mono hszR).drew.alloc hszR8 _).grown zI7 (by show wR.heap.size<=(w8.drew.alloc _).heap.size;simp;omega) (fun k hk=>(zQ HO8.out k hk).1))))).setCell (p:=⟨w1.heap.size,3,none⟩) (.inr rfl) _
        have HE9:Hid (oV names us (us.length-(i+1)) (i+1) ((acc++[((⟨lab,hd1,PP,SS⟩,.slice pa PP.length pc,.slice sa SS.length sc):RX)]).map Prod.fst)=vO names us):=by
         have:=HE3.out;rw[HD.out]at this;unfold Hid;rw[List.map_append];exact this
        clear hG9 zI9 zI7 c3' fzz fz3;go_wp2_with fail
        go_roundw
        case rel=>exact⟨i+1,acc++[((⟨lab,hd1,PP,SS⟩,.slice pa PP.length pc,.slice sa SS.length sc):RX)],_,by omega,by simp;omega,by go_num,HG9,HO9,HK9,HR9,HE9⟩
        case measure=>simp[intOf];omega
     ·have HE3:Hid (oV names us (us.length-(i+1)) (i+1) (acc.map Prod.fst)=vO names us):=by have:=HE2.out;rw[tg k1]at this;exact this
      have b1:(cA (uA us i) 0==[114,117,108,101])=false:=by simpa[zR] using k1
      have b2:(cA (uA us i) 0 != [114,117,108,101])=true:=by simpa[zR] using k1
      clear HE2 k1;generalize cA (uA us i) 0=cl at *;go_wp2_with fail
      go_roundw
      case rel=>exact⟨i+1,acc,rv,by omega,by omega,by go_num,HG,HO,HKp,HRu,HE3⟩
      case measure=>simp[intOf];omega
    ·have HE3:Hid (acc.map Prod.fst=vO names us):=by have:=HE.out;rw[show us.length-i=0 by omega]at this;exact this
     clear HE;obtain⟨ra,rc,rfl⟩:=yH HO.out;go_wp2_with fail
     go_ret
     have hB9:Below w1.heap.size w1 wr:=HB5.out.trans (HKp.out.toBelow hsR);refine⟨w1.heap.size,acc,rfl,⟨⟨la,lc,d0,HRl.out wr HKp.out⟩,?_,?_,⟨ra,rc,d3,(jP HO.out).elim fun a h=>h.elim fun c h=>?_⟩,HRu.out,by omega⟩,?_,HB1.out.trans (hB9.mono hs1)⟩
     ·rw[HI2.out.1];exact⟨na3,nc3,d1,HN5.out wr HKp.out⟩
     ·rw[HI2.out.2];exact d2
     ·obtain⟨h1,h2⟩:=h
      obtain⟨rfl,-⟩:ra=a/\rc=c:=by simpa using h1
      exact h2.cel
     ·rw[HI2.out.1];exact HE3.out
end Go.Proofs.YtnbpdffdnphbeaaGreatDoor
