import Derived.Test.YtnbpdffdnphbeaaGreatDoorRfBase
import Derived.Test.YtnbpdffdnphbeaaGreatDoorPRing
import Derived.Deep.OwnRows
set_option maxHeartbeats 4000000
namespace Go.Proofs.YtnbpdffdnphbeaaGreatDoor
open Go.RowKit
variable{l:List Bool}{gs:List Nat}{g B:Nat}{v:Value}{w w':World}(m:Nat->Nat->Bool)(us:List zG)(i N k:Nat)
theorem Ud(acc:List Bs)(h:i<us.length):cY us (us.length-i) i acc=cY us (us.length-(i+1)) (i+1) (if cA (uA us i) 0=zQ/\zV us zQ 3 (tA (uA us i) 3)=(i:Int) then acc++[tA (uA us i) 3] else acc):=by
 rw[show us.length-i=(us.length-(i+1))+1 by omega,cY]
theorem Cw(acc:List Bs)(h:i<us.length):sD us (us.length-i) i acc=sD us (us.length-(i+1)) (i+1) (if cA (uA us i) 0=zQ then acc++[tA (uA us i) 1] else acc):=by
 rw[show us.length-i=(us.length-(i+1))+1 by omega,sD]
theorem Fk(w:World)(a:Option Addr)(c:Nat)(ls:List zF)(us:List zG)(h:bF w a us)(hA:yQ ls us) :
 Calls Tryz.prog 64 #[.slice a us.length c] w fun e w'=>∃v,e=.returned v/\w'.ownsRow w.heap.size 9 1 v (jB us).length (mF (jB us))/\(jB us).length<=us.length/\Below w.heap.size w w':=by
 obtain⟨i0,hi0,hz0,hz1,hz2⟩:=dp Zq;have HR:=zA h;have zIP:=h.few;have HA:=zA hA;obtain⟨B,hB⟩:∃B,B=w.heap.size:=⟨_,rfl⟩;have HB0:=zA hB;clear h hA hB
 go_enter Tryz.func64,Tryz.ntmps64
 go_wp2_with fail
 go_loopw [3,4] (fun ov iv wr=>∃(i:Nat) (acc:List Bs),i<=us.length/\acc.length<=i/\iv=.int .i64 i/\Hid (wr.ownsRow B 9 1 ov acc.length (mF acc))/\Hid (Below B w wr)/\Hid (cY us (us.length-i) i acc=jB us)) (fun _ iv _=>us.length-(intOf iv).toNat)
 case atStart=>exact⟨0,[],tr _,t9 _,rfl,zA (lq _ _ _ _),zA (tl _ _),zA rfl⟩
 case round =>
  obtain⟨i,acc,hi,hacc,rfl,HO,HB,HE⟩:=hrel;by_cases zIB:i<us.length
  ·have hRr:=HR.out.below (by have:=HB.out;rwa [HB0.out]at this)
   have HF:=zA (fun nm=>Up wr a c ls us nm hRr HA.out);obtain⟨gl,g,o,cu,rfl,zIW,zIF,hlc,hcm,hsm⟩:=hRr.at zIB;have hx:=HA.out.get i zIB;have h2:=hx.two;have hc0:=(zIF.tok (show 0<(uA us i).length by omega)).2;rw[my,pq]at hc0;have il0:(0:Int)<((uA us i).length:Int):=by omega
   have hE:=HE.out;rw[Ud us i acc zIB]at hE;have HE2:=zA hE;have zIQ:B<=wr.heap.size:=by have:=HB.out.size;have h2:=HB0.out;omega
   have HLn:=zA (fun hk=>hx.len hk);have HSg:=zA zIF;clear HE hE hRr hx zIF;by_cases k1:cA (uA us i) 0=zQ
   ·have h6:=HLn.out k1
    have hc3:=(HSg.out.tok (show 3<(uA us i).length by omega)).1;rw[show 3*3=9 from rfl]at hc3;rw[k1]at hc0 HE2;simp only[zQ]at hc0;have il3:(3:Int)<((uA us i).length:Int):=by omega
    have HF2:Hid (∀nm:Bs,Calls Tryz.prog 110 #[.slice (some ⟨gl,0,none⟩) us.length c,.string ⟨#[114,117,108,101]⟩,.int .i64 3,.string ⟨nm.toArray⟩] wr fun e w'=>e=.returned (.int .i64 (zV us zQ 3 nm))/\w'=wr):=HF;clear HF k1 HLn HSg;generalize tA (uA us i) 3=cc at *;have HF3:=zA (HF2.out cc);clear HF2;generalize zV us zQ 3 cc=f at *;by_cases k2:f=(i:Int)
    ·have HE3:Hid (cY us (us.length-(i+1)) (i+1) (acc++[cc])=jB us):=by have:=HE2.out;rw[tj ⟨rfl,k2⟩]at this;exact this
     subst k2;clear HE2;go_wp2_with fail
     refine HF3.out.mono ?_;rintro e w1 ⟨rfl,hw⟩;obtain rfl:=hw.symm
     go_wp2_with (at_builtin;refine wpList_append_own _ rfl _ _ 37 rfl B 9 i0 _ 1 16 Tryz.underlying37 hi0 hz0 hz1 hz2 rfl (by decide) _ _ _ rfl (HO.out.alloc _) ⟨wr.heap.size,0,none⟩ 1 1 [.string ⟨cc.toArray⟩] rfl rfl ?c1 ?c2 ?c3 ?c4 ?c5 ?_)
     case c1=>exact zZ _ _ _ _ rfl
     case c2=>intro u hu;simp at hu;subst hu;rfl
     case c3=>unfold maxLen;omega
     case c4=>omega
     case c5=>simp;omega
     intro v' w2 zIE zIC _;have HB2:Hid (Below B w w2):=(HB.out.alloc zIQ _).grown zIC (by simp;omega) (zN HO.out);have HO2:Hid (w2.ownsRow B 9 1 v' (acc++[cc]).length (mF (acc++[cc]))):=by unfold Hid;rw[dO];simpa using zIE
     clear zIC zIE;go_wp2_with fail
     go_roundw
     case rel=>exact⟨i+1,acc++[cc],by omega,by simp;omega,by go_num,HO2,HB2,HE3⟩
     case measure=>simp[intOf];omega
    ·have HE3:Hid (cY us (us.length-(i+1)) (i+1) acc=jB us):=by have:=HE2.out;rw[tg (fun h=>k2 h.2)]at this;exact this
     have b2:(f==(i:Int))=false:=by simpa using k2
     clear HE2 k2;go_wp2_with fail
     refine HF3.out.mono ?_;rintro e w1 ⟨rfl,hw⟩;obtain rfl:=hw.symm;go_wp2_with fail
     go_roundw
     case rel=>exact⟨i+1,acc,by omega,by omega,by go_num,HO,HB,HE3⟩
     case measure=>simp[intOf];omega
   ·have HE3:Hid (cY us (us.length-(i+1)) (i+1) acc=jB us):=by have:=HE2.out;rw[tg (fun h=>k1 h.1)]at this;exact this
    have b1:(cA (uA us i) 0==[114,117,108,101])=false:=by simpa[zQ] using k1
    clear HE2 k1 HF HLn HSg;generalize cA (uA us i) 0=cl at *;go_wp2_with fail
    go_roundw
    case rel=>exact⟨i+1,acc,by omega,by omega,by go_num,HO,HB,HE3⟩
    case measure=>simp[intOf];omega
  ·have HE3:Hid (acc=jB us):=by have:=HE.out;rw[show us.length-i=0 by omega]at this;exact this
   clear HE;go_wp2_with fail
   go_ret
   exact⟨_,rfl,by rw[<-HE3.out,<-HB0.out];exact HO.out,by rw[<-HE3.out];omega,by rw[<-HB0.out];exact HB.out⟩
theorem UP(w:World)(a:Option Addr)(c:Nat)(ls:List zF)(us:List zG)(h:bF w a us)(hA:yQ ls us) :
 Calls Tryz.prog 133 #[.slice a us.length c] w fun e w'=>∃v,e=.returned v/\w'.ownsRow w.heap.size 9 1 v (pS us).length (mF (pS us))/\(pS us).length<=us.length/\Below w.heap.size w w':=by
 obtain⟨i0,hi0,hz0,hz1,hz2⟩:=dp Zq;have HR:=zA h;have zIP:=h.few;have HA:=zA hA;obtain⟨B,hB⟩:∃B,B=w.heap.size:=⟨_,rfl⟩;have HB0:=zA hB;clear h hA hB
 go_enter Tryz.func133,Tryz.ntmps133
 go_wp2_with fail
 go_loopw [3,4] (fun ov iv wr=>∃(i:Nat) (acc:List Bs),i<=us.length/\acc.length<=i/\iv=.int .i64 i/\Hid (wr.ownsRow B 9 1 ov acc.length (mF acc))/\Hid (Below B w wr)/\Hid (sD us (us.length-i) i acc=pS us)) (fun _ iv _=>us.length-(intOf iv).toNat)
 case atStart=>exact⟨0,[],tr _,t9 _,rfl,zA (lq _ _ _ _),zA (tl _ _),zA rfl⟩
 case round =>
  obtain⟨i,acc,hi,hacc,rfl,HO,HB,HE⟩:=hrel;by_cases zIB:i<us.length
  ·have hRr:=HR.out.below (by have:=HB.out;rwa [HB0.out]at this)
   obtain⟨gl,g,o,cu,rfl,zIW,zIF,hlc,hcm,hsm⟩:=hRr.at zIB;have hx:=HA.out.get i zIB;have h2:=hx.two;have hc0:=(zIF.tok (show 0<(uA us i).length by omega)).2;have hc1:=(zIF.tok (show 1<(uA us i).length by omega)).1;rw[my,pq]at hc0;rw[dv]at hc1;have il0:(0:Int)<((uA us i).length:Int):=by omega
   have il1:(1:Int)<((uA us i).length:Int):=by omega
   have hE:=HE.out;rw[Cw us i acc zIB]at hE;have HE2:=zA hE;have zIQ:B<=wr.heap.size:=by have:=HB.out.size;have h2:=HB0.out;omega
   clear HE hE hRr hx zIF;by_cases k1:cA (uA us i) 0=zQ
   ·rw[k1]at hc0
    simp only[zQ]at hc0;have HE3:Hid (sD us (us.length-(i+1)) (i+1) (acc++[tA (uA us i) 1])=pS us):=by have:=HE2.out;rw[tj k1]at this;exact this
    clear k1 HE2;generalize tA (uA us i) 1=cc at *
    go_wp2_with (at_builtin;refine wpList_append_own _ rfl _ _ 37 rfl B 9 i0 _ 1 16 Tryz.underlying37 hi0 hz0 hz1 hz2 rfl (by decide) _ _ _ rfl (HO.out.alloc _) ⟨wr.heap.size,0,none⟩ 1 1 [.string ⟨cc.toArray⟩] rfl rfl ?c1 ?c2 ?c3 ?c4 ?c5 ?_)
    case c1=>exact zZ _ _ _ _ rfl
    case c2=>intro u hu;simp at hu;subst hu;rfl
    case c3=>unfold maxLen;omega
    case c4=>omega
    case c5=>simp;omega
    intro v' w2 zIE zIC _;have HB2:Hid (Below B w w2):=(HB.out.alloc zIQ _).grown zIC (by simp;omega) (zN HO.out);have HO2:Hid (w2.ownsRow B 9 1 v' (acc++[cc]).length (mF (acc++[cc]))):=by unfold Hid;rw[dO];simpa using zIE
    clear zIC zIE;go_wp2_with fail
    go_roundw
    case rel=>exact⟨i+1,acc++[cc],by omega,by simp;omega,by go_num,HO2,HB2,HE3⟩
    case measure=>simp[intOf];omega
   ·have HE3:Hid (sD us (us.length-(i+1)) (i+1) acc=pS us):=by have:=HE2.out;rw[tg k1]at this;exact this
    have b1:(cA (uA us i) 0==[114,117,108,101])=false:=by simpa[zQ] using k1
    clear HE2 k1;generalize cA (uA us i) 0=cl at *;go_wp2_with fail
    go_roundw
    case rel=>exact⟨i+1,acc,by omega,by omega,by go_num,HO,HB,HE3⟩
    case measure=>simp[intOf];omega
  ·have HE3:Hid (acc=pS us):=by have:=HE.out;rw[show us.length-i=0 by omega]at this;exact this
   clear HE;go_wp2_with fail
   go_ret
   exact⟨_,rfl,by rw[<-HE3.out,<-HB0.out];exact HO.out,by rw[<-HE3.out];omega,by rw[<-HB0.out];exact HB.out⟩
theorem J9(p:zG->Bool)(us:List zG)(i:Nat)(h:i<us.length):(us.drop i).any p=(p (uA us i) || (us.drop (i+1)).any p):=by
 rw[pb h,mt];simp[uA,List.getD,h]
theorem qu(u:zG)(d:Bs)(k:Nat)(h:k<u.length):Jj u d (u.length-k) k=(Kl u d k || Jj u d (u.length-(k+1)) (k+1)):=by
 rw[show u.length-k=(u.length-(k+1))+1 by omega,Jj]
theorem zEP(w:World)(a:Option Addr)(cp:Nat)(ls:List zF)(us:List zG)(c d:Bs)(h:bF w a us)(hA:yQ ls us) :
 Calls Tryz.prog 111 #[.slice a us.length cp,.string ⟨c.toArray⟩,.string ⟨d.toArray⟩] w fun e w'=>e=.returned (.bool (cU us c d))/\w'=w:=by
 have HR:=zA h;have zIP:=h.few;have HA:=zA hA;clear h hA
 go_enter Tryz.func111,Tryz.ntmps111
 go_wp2_with fail
 go_loop [7] (fun iv=>∃(i:Nat),i<=us.length/\iv=.int .i64 i/\Hid ((us.drop i).any (qt c d)=cU us c d)) (fun iv=>us.length-(intOf iv).toNat)
 case atStart=>exact⟨0,tr _,rfl,zA rfl⟩
 case round =>
  obtain⟨i,hi,rfl,HE⟩:=hrel;by_cases zIB:i<us.length
  ·obtain⟨gl,g,o,cu,rfl,zIW,zIF,hlc,hcm,hsm⟩:=HR.out.at zIB
   have hx:=HA.out.get i zIB;have h2:=hx.two;have hc0:=(zIF.tok (show 0<(uA us i).length by omega)).2;rw[my,pq]at hc0;have il0:(0:Int)<((uA us i).length:Int):=by omega
   have hE:=HE.out;rw[J9 _ us i zIB]at hE;have HE2:=zA hE;have HRl:=zA (fun hk=>hx.rule hk);have HSg:=zA zIF;clear HE hE hx zIF;generalize uA us i=u at *;by_cases k1:cA u 0=zQ
   ·obtain⟨w0,hw⟩:=HRl.out k1
    have hwlo:=hw.wlo;have hwhi:=hw.whi;have HWn:=zA hw.wB;have HWA:=zA hw.wAt;have hc3:=(HSg.out.tok (show 3<u.length by omega)).1;rw[show 3*3=9 from rfl]at hc3;have il3:(3:Int)<(u.length:Int):=by omega
    by_cases k2:tA u 3=c
    ·have HE3:Hid ((Jj u d (u.length-5) 5 || (us.drop (i+1)).any (qt c d))=cU us c d):=by have:=HE2.out;unfold qt at this;rw[tm k1,tm k2]at this;exact this
     rw[k1]at hc0;simp only[zQ]at hc0;rw[k2]at hc3;clear HE2 k1 k2 HRl hw;go_wp2_with fail
     refine(wF u g o cu _ HSg.out (by omega) hlc).mono ?_;rintro e w1 ⟨rfl,hw⟩;obtain rfl:=hw.symm;rw[HWn.out];go_wp2_with fail
     go_loop [10] (fun kv=>∃(k:Nat),5<=k/\k<=u.length/\kv=.int .i64 k/\Hid (Jj u d (u.length-k) k=Jj u d (u.length-5) 5)) (fun kv=>u.length-(intOf kv).toNat)
     case atStart=>exact⟨5,t9 _,by omega,rfl,zA rfl⟩
     case round =>
      obtain⟨k,hk5,hk,rfl,HEk⟩:=hrel;by_cases zJA:k<u.length
      ·have hck:=(HSg.out.tok zJA).2
       have htk:=(HSg.out.tok zJA).1;obtain⟨k',rfl⟩:∃k',k=k'+1:=⟨k-1,by omega⟩;have hcp:=(HSg.out.tok (show k'<u.length by omega)).2;have ikl:((k':Int)+1)<(u.length:Int):=by omega
       have ikp:(k':Int)<(u.length:Int):=by omega
       have hE:=HEk.out;rw[qu u d (k'+1) zJA]at hE;unfold Kl at hE;rw[HWA.out,show k'+1-1=k' by omega]at hE;have HE4:=zA hE;clear HEk hE;generalize cA u (k'+1)=cl at *;generalize tA u (k'+1)=tt at *;generalize cA u k'=clp at *;by_cases j1:cl=yT
       ·have b1:(cl==[78,65,77,69])=true:=by simpa[yT] using j1
        by_cases j2:tt=d
        ·have b2:(tt==d)=true:=by simpa using j2
         by_cases j3:k'+1<w0
         ·have HF:Hid (cU us c d=true):=by unfold Hid;rw[<-HE3.out,<-HE4.out,tm j1,tm j2,tm j3];rfl
          have i3:((k':Int)+1)<(w0:Int):=by omega
          clear HE4 j1 j2;go_wp2_with fail
          go_ret
          exact⟨zE HF.out.symm,rfl⟩
         ·have i3:decide (((k':Int)+1)<(w0:Int))=false:=th (by omega)
          by_cases j4:clp=[104,97,115]
          ·have HF:Hid (cU us c d=true):=by unfold Hid;rw[<-HE3.out,<-HE4.out,tm j1,tm j2,tm j4,f8];rfl
           have b4:(clp==[104,97,115])=true:=by simpa using j4
           clear HE4 j1 j2 j4;go_wp2_with fail
           go_ret
           exact⟨zE HF.out.symm,rfl⟩
          ·have HE5:Hid (Jj u d (u.length-(k'+1+1)) (k'+1+1)=Jj u d (u.length-5) 5):=by have:=HE4.out;rw[th j3,th j4,pm,lu,lu,pm]at this;exact this
           have b4:(clp==[104,97,115])=false:=by simpa using j4
           clear HE4 j1 j2 j4;go_wp2_with fail
           go_round
           case rel=>exact⟨k'+1+1,by omega,by omega,by go_num,HE5⟩
           case measure=>simp[intOf];omega
        ·have HE5:Hid (Jj u d (u.length-(k'+1+1)) (k'+1+1)=Jj u d (u.length-5) 5):=by have:=HE4.out;rw[th j2,l5,lu,pm]at this;exact this
         have b2:(tt==d)=false:=by simpa using j2
         clear HE4 j1 j2;go_wp2_with fail
         go_round
         case rel=>exact⟨k'+1+1,by omega,by omega,by go_num,HE5⟩
         case measure=>simp[intOf];omega
       ·have HE5:Hid (Jj u d (u.length-(k'+1+1)) (k'+1+1)=Jj u d (u.length-5) 5):=by have:=HE4.out;rw[th j1,l5,pm]at this;exact this
        have b1:(cl==[78,65,77,69])=false:=by simpa[yT] using j1
        clear HE4 j1;go_wp2_with fail
        go_round
        case rel=>exact⟨k'+1+1,by omega,by omega,by go_num,HE5⟩
        case measure=>simp[intOf];omega
      ·have HE5:Hid ((us.drop (i+1)).any (qt c d)=cU us c d):=by
        have h1:=HEk.out;rw[show u.length-k=0 by omega]at h1;have h2:=HE3.out;rw[<-h1]at h2;exact h2
       clear HEk HE3;go_wp2_with fail
       go_round
       case rel=>exact⟨i+1,by omega,by go_num,HE5⟩
       case measure=>simp[intOf];omega
    ·have HE3:Hid ((us.drop (i+1)).any (qt c d)=cU us c d):=by have:=HE2.out;unfold qt at this;rw[th k2,l5,lu,pm]at this;exact this
     have b2:(tA u 3==c)=false:=by simpa using k2
     rw[k1]at hc0;simp only[zQ]at hc0;clear HE2 k1 k2 HRl hw;generalize tA u 3=tt at *;go_wp2_with fail
     go_round
     case rel=>exact⟨i+1,by omega,by go_num,HE3⟩
     case measure=>simp[intOf];omega
   ·have HE3:Hid ((us.drop (i+1)).any (qt c d)=cU us c d):=by have:=HE2.out;unfold qt at this;rw[th k1,l5,pm]at this;exact this
    have b1:(cA u 0==[114,117,108,101])=false:=by simpa[zQ] using k1
    clear HE2 k1 HRl;generalize cA u 0=cl at *;go_wp2_with fail
    go_round
    case rel=>exact⟨i+1,by omega,by go_num,HE3⟩
    case measure=>simp[intOf];omega
  ·have HE3:Hid (cU us c d=false):=by have:=HE.out;rw[tu (by omega)]at this;exact this.symm
   clear HE;go_wp2_with fail
   go_ret
   exact⟨zE HE3.out.symm,rfl⟩
theorem zH4(w:World)(a:Option Addr)(cp:Nat)(ls:List zF)(us:List zG)(x y:Bs)(h:bF w a us)(hA:yQ ls us) :
 Calls Tryz.prog 200 #[.slice a us.length cp,.string ⟨x.toArray⟩,.string ⟨y.toArray⟩] w fun e w'=>e=.returned (.bool (rW us x y))/\w'=w:=by
 have HR:=zA h;have zIP:=h.few;have HA:=zA hA;clear h hA
 go_enter Tryz.func200,Tryz.ntmps200
 go_wp2_with fail
 go_loop [7] (fun iv=>∃(i:Nat),i<=us.length/\iv=.int .i64 i/\Hid ((us.drop i).any (qi x y)=rW us x y)) (fun iv=>us.length-(intOf iv).toNat)
 case atStart=>exact⟨0,tr _,rfl,zA rfl⟩
 case round =>
  obtain⟨i,hi,rfl,HE⟩:=hrel;by_cases zIB:i<us.length
  ·obtain⟨gl,g,o,cu,rfl,zIW,zIF,hlc,hcm,hsm⟩:=HR.out.at zIB
   have hx:=HA.out.get i zIB;have h2:=hx.two
   have h3:cA (uA us i) 0=tW->3<=(uA us i).length:=fun hk=>by
    rcases hx.kind with ⟨_,b,_⟩|⟨_,b⟩|⟨_,_,h3,_⟩|⟨_,b,_⟩
    ·exact absurd (b.symm.trans hk) (by decide)
    ·exact absurd (b.symm.trans hk) (by decide)
    ·exact h3
    ·exact absurd (b.symm.trans hk) (by decide)
   have H3:=zA h3;have hc0:=(zIF.tok (show 0<(uA us i).length by omega)).2;have hc1:=(zIF.tok (show 1<(uA us i).length by omega)).1;rw[my,pq]at hc0;rw[dv]at hc1;have il0:(0:Int)<((uA us i).length:Int):=by omega
   have il1:(1:Int)<((uA us i).length:Int):=by omega
   have hE:=HE.out;rw[J9 _ us i zIB]at hE;have HE2:=zA hE;have HSg:=zA zIF;clear HE hE hx zIF h3;generalize uA us i=u at *;by_cases k1:cA u 0=tW
   ·have h3:=H3.out k1
    have hc2:=(HSg.out.tok (show 2<u.length by omega)).1;rw[show 2*3=6 from rfl]at hc2;have il2:(2:Int)<(u.length:Int):=by omega
    rw[k1]at hc0;simp only[tW]at hc0;by_cases k2:tA u 1=x
    ·by_cases k3:tA u 2=y
     ·have HF:Hid (rW us x y=true):=by have:=HE2.out;unfold qi at this;rw[tm k1,tm k2,tm k3]at this;exact this.symm
      have b2:(tA u 1==x)=true:=by simpa using k2
      have b3:(tA u 2==y)=true:=by simpa using k3
      clear HE2 k1 k2 k3 H3;generalize tA u 1=t1 at *;generalize tA u 2=t2 at *;go_wp2_with fail
      go_ret
      exact⟨zE HF.out.symm,rfl⟩
     ·have HE3:Hid ((us.drop (i+1)).any (qi x y)=rW us x y):=by have:=HE2.out;unfold qi at this;rw[th k3,lu,lu,pm]at this;exact this
      have b2:(tA u 1==x)=true:=by simpa using k2
      have b3:(tA u 2==y)=false:=by simpa using k3
      clear HE2 k1 k2 k3 H3;generalize tA u 1=t1 at *;generalize tA u 2=t2 at *;go_wp2_with fail
      go_round
      case rel=>exact⟨i+1,by omega,by go_num,HE3⟩
      case measure=>simp[intOf];omega
    ·have HE3:Hid ((us.drop (i+1)).any (qi x y)=rW us x y):=by have:=HE2.out;unfold qi at this;rw[th k2,l5,lu,pm]at this;exact this
     have b2:(tA u 1==x)=false:=by simpa using k2
     clear HE2 k1 k2 H3;generalize tA u 1=t1 at *;go_wp2_with fail
     go_round
     case rel=>exact⟨i+1,by omega,by go_num,HE3⟩
     case measure=>simp[intOf];omega
   ·have HE3:Hid ((us.drop (i+1)).any (qi x y)=rW us x y):=by have:=HE2.out;unfold qi at this;rw[th k1,l5,pm]at this;exact this
    have b1:(cA u 0==[111,118,101,114])=false:=by simpa[tW] using k1
    clear HE2 k1 H3;generalize cA u 0=cl at *;go_wp2_with fail
    go_round
    case rel=>exact⟨i+1,by omega,by go_num,HE3⟩
    case measure=>simp[intOf];omega
  ·have HE3:Hid (rW us x y=false):=by have:=HE.out;rw[tu (by omega)]at this;exact this.symm
   clear HE;go_wp2_with fail
   go_ret
   exact⟨zE HE3.out.symm,rfl⟩
theorem zFT(w:World)(a:Option Addr)(cp:Nat)(ls:List zF)(us:List zG)(r:Bool)(x y:Bs)(h:bF w a us)(hA:yQ ls us) :
 Calls Tryz.prog 143 #[.slice a us.length cp,.bool r,.string ⟨x.toArray⟩,.string ⟨y.toArray⟩] w fun e w'=>e=.returned (.bool (rL us r x y))/\w'=w:=by
 have H1:=zA (zH4 w a cp ls us x y h hA);have H2:=zA (zEP w a cp ls us x y h hA);clear h hA;cases r
 ·have HR:Hid (rL us false x y=cU us x y):=rfl
  generalize rL us false x y=z at *
  go_enter Tryz.func143,Tryz.ntmps143
  go_wp2_with fail
  refine H2.out.mono ?_;rintro e w1 ⟨rfl,hw⟩;obtain rfl:=hw.symm;go_wp2_with fail
  go_ret
  exact⟨zE HR.out.symm,rfl⟩
 ·have HR:Hid (rL us true x y=rW us x y):=rfl
  generalize rL us true x y=z at *
  go_enter Tryz.func143,Tryz.ntmps143
  go_wp2_with fail
  refine H1.out.mono ?_;rintro e w1 ⟨rfl,hw⟩;obtain rfl:=hw.symm;go_wp2_with fail
  go_ret
  exact⟨zE HR.out.symm,rfl⟩
def uP(w:World)(g:Nat)(l:List Bool):Prop:=w.heap[g]? = some (.cells (gC l) 4 (0,0))
theorem uP.cell(h:uP w g l){k:Nat}(hk:k<l.length):w.cell? ⟨g,k,none⟩=some (.bool (l.getD k false)):=by
 simp only[World.cell?,show w.heap[g]? = _ from h];exact C8 hk
theorem uP.free(h:uP w g l)(k:Nat):w.frozen? ⟨g,k,none⟩=false:=by simp[World.frozen?,show w.heap[g]? = _ from h]
theorem uP.lt(h:uP w g l):g<w.heap.size:=by
 rcases po g w.heap.size with h1|h1
 ·exact h1
 ·have h2:w.heap[g]? = _:=h;rw[pj h1]at h2;cases h2
theorem uP.set(h:uP w g l)(k:Nat)(b:Bool):uP (w.setCell ⟨g,k,none⟩ (.bool b)) g (l.set k b):=by
 unfold uP at h ⊢;rw[setCell_eq_setRow w g k _ _ _ _ h,lk w g (gC l) _ _ _ h];congr 2
 simp[gC,List.map_set]
theorem vN.drew{a b:World}(h:vN g a b):vN g a b.drew:=⟨h.os,h.tape,h.output,h.size,h.block⟩
theorem oC(n:Nat):madeCells #[Value.bool false] n=gC (List.replicate n false):=by
 apply Array.ext
 ·simp[madeCells,gC]
 ·intro i h1 h2
  simp[madeCells,gC,Nat.mod_one]
def cF(m:Nat->Nat->Bool)(i N k:Nat):List Bool:=(List.range N).map fun j=>decide (j<k)&&m i j
theorem ZC:(cF m i N k).length=N:=by simp[cF]
theorem B7:cF m i N 0=List.replicate N false:=by
 apply List.ext_getElem
 ·simp[cF]
 ·intro n h1 h2;simp[cF]
theorem FK:(cF m i N k).set k (m i k)=cF m i N (k+1):=by
 apply List.ext_getElem
 ·simp[cF]
 ·intro n h1 h2
  simp only[cF,List.getElem_set,List.getElem_map,List.getElem_range];by_cases h:k=n
  ·subst h;simp
  ·rw[tg h]
   congr 1
   rw[bp];omega
theorem Ja(hk:k<N):(cF m i N N).getD k false=m i k:=by
 simp[cF,List.getD,hk]
def un(N g:Nat):Value:=.slice (some ⟨g,0,none⟩) N N
structure Yb(B:Nat)(w:World)(v:Value)(gs:List Nat)(m:Nat->Nat->Bool)(N k:Nat):Prop where
 len:gs.length=k
 own:w.ownsRow B 180 1 v gs.length (gs.map (un N))
 rows:∀j,j<k->uP w (gs.getD j 0) (cF m j N N)
theorem zDQ:(Tryz.prog.info? 180).map (fun i=>(i.zero,i.size,i.bytes))=some (some (.slice none 0 0),1,24):=by kernel_rfl
theorem Zr:(Tryz.prog.info? 4).map (fun i=>(i.zero,i.size,i.bytes))=some (some (.bool false),1,1):=by kernel_rfl
theorem Ji{e:TypeId}{size:Nat}{n:Nat}{xs:List Value}(h:w.ownsRow B e size v n xs)(hb:Below w.heap.size w w'):w'.ownsRow B e size v n xs:=by
 refine⟨h.1,?_⟩;rcases h.2 with h1|⟨g,cap,yV,h1,h2,h3,r⟩
 ·exact .inl h1
 ·refine .inr ⟨g,cap,yV,h1,h2,?_,r⟩
  have zIB:g<w.heap.size:=by
   rcases po g w.heap.size with h|h
   ·exact h
   ·rw[pj h]at h3;cases h3
  rw[hb.block g zIB];exact h3
theorem uP.below(h:uP w g l)(hb:Below w.heap.size w w'):uP w' g l:=by
 have hl:=h.lt;unfold uP at h ⊢;rw[hb.block g hl];exact h
theorem uP.grown{n:Nat}{xs:List Value}(h:uP w g l)(hl:w.ownsRow B 180 1 v n xs)(hg:w.grownBy w' v.ownBlock):uP w' g l:=by
 have zIB:=h.lt;unfold uP at h ⊢;rw[hg.block g zIB ?_];· exact h
 intro hE;rcases hl.2 with ⟨k1,_⟩|⟨g',cap',cur',k1,_,k3,_⟩
 ·rw[k1]at hE;simp[Value.ownBlock]at hE
 ·rw[k1]at hE
  simp[Value.ownBlock]at hE;subst hE;rw[h]at k3;simp at k3
theorem Yb.snoc{N i:Nat}{v':Value}{m:Nat->Nat->Bool}(h:Yb B w v gs m N i)(hr:uP w g (cF m i N N))(hg:w.grownBy w' v.ownBlock)(zID:w'.ownsRow B 180 1 v' (gs.length+1) (gs.map (un N)++[un N g])):Yb B w' v' (gs++[g]) m N (i+1):=by
 refine⟨by rw[tq,pd,h.len],by rw[tq,List.map_append];exact zID,fun j hj=>?_⟩;have hl:=h.len;rcases po j i with h1|h1
 ·have e:(gs++[g]).getD j 0=gs.getD j 0:=by rw[List.getD,List.getD,m6 (by omega)]
  rw[e];exact(h.rows j h1).grown h.own hg
 ·obtain rfl:j=i:=by omega
  have e:(gs++[g]).getD j 0=g:=by rw[List.getD,pf (by omega),hl];simp
  rw[e];exact hr.grown h.own hg
theorem oP.below{a:Option Addr}{names:List Bs}(h:oP w a names)(hb:Below w.heap.size w w'):oP w' a names :=
 ⟨fun h0=>let ⟨g,e,p⟩:=h.blk h0;⟨g,e,fun i hi=>by rw[hb.cell (p:=⟨g,i,none⟩) (zT (p i hi))];exact p i hi⟩,h.few⟩
theorem zC6(w:World)(a:Option Addr)(cp:Nat)(ls:List zF)(us:List zG)(r:Bool)(na:Option Addr)(nc:Nat)(names:List Bs)(h:bF w a us)(hA:yQ ls us)(hn:oP w na names) :
 Calls Tryz.prog 193 #[.slice a us.length cp,.bool r,.slice na names.length nc] w fun e w'=>∃v gs,e=.returned v/\Yb w.heap.size w' v gs (jG us r names) names.length names.length/\Below w.heap.size w w':=by
 obtain⟨i0,hi0,hz0,hz1,hz2⟩:=dp zDQ;obtain⟨i1,hj0,hj1,hj2,hj3⟩:=dp Zr;have HR:=zA h;have HA:=zA hA;have HN:=zA hn;have zIP:=hn.few;have hlen64:i1.bytes*names.length<=281474976710656:=by rw[hj3];omega
 have hlen63:names.length<=9223372036854775807:=by omega
 obtain⟨B,hB⟩:∃B,B=w.heap.size:=⟨_,rfl⟩;have HB0:=zA hB;have HB1:=zA hlen64;have HB2:=zA hlen63;clear h hA hn hB hlen64 hlen63
 go_enter Tryz.func193,Tryz.ntmps193
 go_wp2_with fail
 go_loopw [7,8] (fun ov iv wr=>∃(i:Nat) (gs:List Nat),i<=names.length/\iv=.int .i64 i/\Hid (Yb B wr ov gs (jG us r names) names.length i)/\Hid (Below B w wr)) (fun _ iv _=>names.length-(intOf iv).toNat)
 case atStart=>exact⟨0,[],tr _,rfl,zA ⟨rfl,lq _ _ _ _,fun j hj=>absurd hj (by omega)⟩,zA (tl _ _)⟩
 case round =>
  obtain⟨i,gs,hi,rfl,HM,HB⟩:=hrel;by_cases zIB:i<names.length
  ·have zIQ:B<=wr.heap.size:=by have:=HB.out.size;have h2:=HB0.out;omega
   obtain⟨wo,hwo⟩:∃wo,wo=wr:=⟨_,rfl⟩;subst hwo;have HZ:=zA (show (Value.bool false).cells = #[Value.bool false] from rfl)
   go_wp2_with (with_reducible refine wpList_make_row _ ?hg (.tmp 18) (.tmp 18) 180 ?zJ9 4 i1 (.bool false) Tryz.underlying180 hj0 hj1 hj2 HZ.out .i64 .i64 names.length ?hl ?hc HB1.out HB2.out ?_
                case zJ9=>rfl
                case hg=>rfl
                case hl=>rfl
                case hc=>rfl)
   have hM0:uP (wo.alloc (.cells (madeCells #[Value.bool false] names.length) 4)) wo.heap.size (cF (jG us r names) i names.length 0):=by
    unfold uP;rw[B7,<-oC];exact zM _ _
   have hO0:Below wo.heap.size wo (wo.alloc (.cells (madeCells #[Value.bool false] names.length) 4)):=gj (t9 _) _;have hS0:wo.heap.size<(wo.alloc (.cells (madeCells #[Value.bool false] names.length) 4)).heap.size:=yK _ _;generalize wo.alloc (.cells (madeCells #[Value.bool false] names.length) 4)=wq at *;have HM0:=zA hM0;have HO0:=zA hO0;have HS0:=zA hS0;clear hM0 hO0 hS0
   go_loopw [10] (fun kv wr=>∃(k:Nat),k<=names.length/\kv=.int .i64 k/\Hid (uP wr wo.heap.size (cF (jG us r names) i names.length k))/\Hid (vN wo.heap.size wq wr)) (fun kv _=>names.length-(intOf kv).toNat)
   case atStart=>exact⟨0,tr _,rfl,HM0,zA (vN.refl _ _)⟩
   case round =>
    obtain⟨k,hk,rfl,HMk,HOk⟩:=hrel;clear HM0;by_cases zJA:k<names.length
    ·have hbw:Below w.heap.size w wr:=by
      have h1:=HB.out;rw[HB0.out]at h1;have h2:w.heap.size<=wo.heap.size:=h1.size;exact h1.trans ((HO0.out.mono h2).trans (HOk.out.below (tx h2 (p8 HS0.out)) h2))
     obtain⟨ng,rfl,hcs⟩:=(HN.out.below hbw).blk (by omega);have hci:=hcs i zIB;have hck:=hcs k zJA;have zJ4:=zA (fun w' (hb:Below wr.heap.size wr w') x y=>zFT w' a cp ls us r x y ((HR.out.below hbw).below hb) HA.out);have zIW:=HMk.out.cell (k:=k) (by rw[ZC];exact zJA);have hfree:=HMk.out.free k;have ik:(k:Int)<(names.length:Int):=by omega
     have ii:(i:Int)<(names.length:Int):=by omega
     have HV:Hid (jG us r names i k=rL us r (names.getD i []) (names.getD k [])):=rfl;clear hbw hcs;generalize names.getD i []=x at *;generalize names.getD k []=y at *;have HSt2:=zA (fun w' (hb:Below wr.heap.size wr w')=>zJ4.out w' hb x y);clear zJ4;generalize rL us r x y=z at *;go_wp2_with fail
     go_region_with (go_at_call 143
                     refine(HSt2.out _ (me (tl _ _))).mono ?_;rintro e w1 ⟨rfl,hw⟩;obtain rfl:=hw.symm)
     all_goals
      have HM2:Hid (uP (wr.drew.setCell ⟨wo.heap.size,k,none⟩ (.bool z)) wo.heap.size (cF (jG us r names) i names.length (k+1))):=by
       unfold Hid;rw[<-FK,HV.out];exact uP.set (w:=wr.drew) HMk.out k z
      have HO2:Hid (vN wo.heap.size wq (wr.drew.setCell ⟨wo.heap.size,k,none⟩ (.bool z))):=HOk.out.drew.trans (vN.set _ _ _ _);go_wp2_with fail
      go_roundw
      case rel=>exact⟨k+1,by omega,by go_num,HM2,HO2⟩
      case measure=>simp[intOf];omega
    ·obtain rfl:k=names.length:=by omega
     have hbo:Below wo.heap.size wo wr:=HO0.out.trans (HOk.out.below (p8 HS0.out) (t9 _));have HMr:=zA (show Yb B wr _ gs (jG us r names) names.length i from ⟨HM.out.len,Ji HM.out.own hbo,fun j hj=>(HM.out.rows j hj).below hbo⟩);have HBr:Hid (Below B w wr):=HB.out.trans (hbo.mono zIQ);have zIJ:B<=wr.heap.size:=tx zIQ hbo.size;have hgl:gs.length<=names.length:=by rw[HM.out.len];omega
     clear hbo
     go_wp2_with (at_builtin;refine wpList_append_own _ rfl _ _ 253 rfl B 180 i0 _ 1 24 Tryz.underlying253 hi0 hz0 hz1 hz2 rfl (by decide) _ _ _ rfl (HMr.out.own.alloc _) ⟨wr.heap.size,0,none⟩ 1 1 [un names.length wo.heap.size] rfl rfl ?c1 ?c2 ?c3 ?c4 ?c5 ?_)
     case c1=>exact zZ _ _ _ _ rfl
     case c2=>intro u hu;simp at hu;subst hu;rfl
     case c3=>unfold maxLen;omega
     case c4=>omega
     case c5=>simp;omega
     intro v' w2 zIE zIC _;have HB2:Hid (Below B w w2):=(HBr.out.alloc zIJ _).grown zIC (by simp;omega) (zN HMr.out.own)
     have HM2:Hid (Yb B w2 v' (gs++[wo.heap.size]) (jG us r names) names.length (i+1)):=by
      refine Yb.snoc (w:=wr.alloc _) ⟨HMr.out.len,HMr.out.own.alloc _,fun j hj=>?_⟩ ?_ zIC zIE
      ·exact(HMr.out.rows j hj).below (gj (t9 _) _)
      ·exact HMk.out.below (gj (t9 _) _)
     clear zIC zIE;go_wp2_with fail
     go_roundw
     case rel=>exact⟨i+1,gs++[wo.heap.size],by omega,by go_num,HM2,HB2⟩
     case measure=>simp[intOf];omega
  ·have HE:Hid (i=names.length):=by unfold Hid;omega
   go_wp2_with fail
   go_ret
   refine⟨_,gs,rfl,?_,by rw[<-HB0.out];exact HB.out⟩;have:=HM.out;rw[HE.out,HB0.out]at this;exact this
theorem Kz(fr:Bool)(x N y:Nat)(s:List Bool)(h:y<N):lY m fr x (N-y) y s=lY m fr x (N-(y+1)) (y+1) (if fr&&m x y then s.set y true else s):=by
 rw[show N-y=(N-(y+1))+1 by omega,lY]
theorem zDG(x:Nat)(s:List Bool)(h:x<N):lX m i N (N-x) x s=lX m i N (N-(x+1)) (x+1) (lY m (zGK i x s) x N 0 s):=by
 rw[show N-x=(N-(x+1))+1 by omega,lX]
theorem zDI(n:Nat)(s:List Bool)(h:n<N+1):lN m i N (N+1-n) s=lN m i N (N+1-(n+1)) (lX m i N N 0 s):=by
 rw[show N+1-n=(N+1-(n+1))+1 by omega,lN]
theorem Yb.row{N:Nat}{m:Nat->Nat->Bool}(h:Yb B w v gs m N N){x:Nat}(hx:x<N):∃gm cm,v=.slice (some ⟨gm,0,none⟩) N cm/\w.cell? ⟨gm,x,none⟩=some (.slice (some ⟨gs.getD x 0,0,none⟩) N N)/\gm<w.heap.size/\uP w (gs.getD x 0) (cF m x N N):=by
 rcases h.own.2 with ⟨_,h2⟩|⟨g,cap,yV,h1,_,h3,_,_,_,h7⟩
 ·have:=h.len;omega
 ·refine⟨g,cap,by rw[h1,h.len],?_,?_,h.rows x hx⟩
  ·refine xC h3 h7 ?_
   rw[List.getElem?_map];simp[List.getD,un,show x<gs.length by rw[h.len];exact hx]
  ·rcases po g w.heap.size with h9|h9
   ·exact h9
   ·rw[pj h9]at h3;cases h3
theorem Yb.below{N k:Nat}{m:Nat->Nat->Bool}(h:Yb B w v gs m N k)(hb:Below w.heap.size w w'):Yb B w' v gs m N k :=
 ⟨h.len,Ji h.own hb,fun j hj=>(h.rows j hj).below hb⟩
theorem KU(w:World)(a:Option Addr)(cp:Nat)(ls:List zF)(us:List zG)(r:Bool)(na:Option Addr)(nc:Nat)(names:List Bs)(i k:Nat)(hk:k<names.length)(h:bF w a us)(hA:yQ ls us)(hn:oP w na names) :
 Calls Tryz.prog 134 #[.slice a us.length cp,.bool r,.slice na names.length nc,.int .i64 i,.int .i64 k] w fun e w'=>e=.returned (.bool (lU (jG us r names) names.length i k))/\Below w.heap.size w w':=by
 obtain⟨i1,hj0,hj1,hj2,hj3⟩:=dp Zr;have zIP:=hn.few;have HS:=zA (zC6 w a cp ls us r na nc names h hA hn);have HB1:=zA (show i1.bytes*names.length<=281474976710656 by rw[hj3];omega);have HB2:=zA (show names.length<=9223372036854775807 by omega);have HZ:=zA (show (Value.bool false).cells = #[Value.bool false] from rfl);have HL:Hid (lU (jG us r names) names.length i k=(lN (jG us r names) i names.length (names.length+1) (List.replicate names.length false)).getD k false):=rfl;clear h hA hn;generalize lU (jG us r names) names.length i k=ans at *;generalize jG us r names=m at *;generalize hN:names.length=N at *;clear hN
 go_enter Tryz.func134,Tryz.ntmps134
 go_wp2_with fail
 refine HS.out.mono ?_;rintro e w1 ⟨v,gs,rfl,hM,hb1⟩;have HM:=zA hM;have HBl:=zA hb1;obtain⟨gm,cm,hv⟩:∃gm cm,v=.slice (some ⟨gm,0,none⟩) N cm:=by obtain⟨gm,cm,h1,_⟩:=hM.row (show k<N from hk);exact⟨gm,cm,h1⟩
 subst hv;clear hM hb1 HS
 go_wp2_with (with_reducible refine wpList_make_row _ ?hg (.tmp 22) (.tmp 22) 180 ?zJ9 4 i1 (.bool false) Tryz.underlying180 hj0 hj1 hj2 HZ.out .i64 .i64 N ?hl ?hc HB1.out HB2.out ?_
              case zJ9=>rfl
              case hg=>rfl
              case hl=>rfl
              case hc=>rfl)
 have hM0:uP (w1.alloc (.cells (madeCells #[Value.bool false] N) 4)) w1.heap.size (List.replicate N false):=by
  unfold uP;rw[<-oC];exact zM _ _
 have hO0:vN w1.heap.size w1 (w1.alloc (.cells (madeCells #[Value.bool false] N) 4)):=(vN.refl _ _).alloc _;generalize w1.alloc (.cells (madeCells #[Value.bool false] N) 4)=wq at *;have HM0:=zA hM0;have HO0:=zA hO0;clear hM0 hO0 HB1 HB2 HZ;generalize hgb:w1.heap.size=gb at *;have HGB:=zA hgb;clear hgb
 go_loopw [13] (fun nv wr=>∃(n:Nat) (s:List Bool),n<=N+1/\s.length=N/\nv=.int .i64 n/\Hid (uP wr gb s)/\Hid (vN gb w1 wr)/\Hid (lN m i N (N+1-n) s=lN m i N (N+1) (List.replicate N false))) (fun nv _=>N+1-(intOf nv).toNat)
 case atStart=>exact⟨0,_,tr _,by simp,rfl,HM0,HO0,zA rfl⟩
 case round =>
  obtain⟨n,s,hn,hs,rfl,HMn,HOn,HEn⟩:=hrel;clear HM0 HO0;by_cases hltn:n<N+1
  ·have hE:=HEn.out
   rw[zDI m i N n s hltn]at hE;have HE1:=zA hE;clear HEn hE;obtain⟨wn,hwn⟩:∃wn,wn=wr:=⟨_,rfl⟩;subst hwn;have inN:(n:Int)<=(N:Int):=by omega
   go_wp2_with fail
   go_loopw [14] (fun xv wr=>∃(x:Nat) (s':List Bool),x<=N/\s'.length=N/\xv=.int .i64 x/\Hid (uP wr gb s')/\Hid (vN gb w1 wr)/\Hid (lX m i N (N-x) x s'=lX m i N N 0 s)) (fun xv _=>N-(intOf xv).toNat)
   case atStart=>exact⟨0,s,tr _,hs,rfl,HMn,HOn,zA rfl⟩
   case round =>
    obtain⟨x,s2,hx,hs2,rfl,HMx,HOx,HEx⟩:=hrel;clear HMn HOn;by_cases hltx:x<N
    ·have hE:=HEx.out
     rw[zDG m i N x s2 hltx]at hE;have HE2:=zA hE;clear HEx hE;have hcx:=HMx.out.cell (k:=x) (by omega);have HFr:Hid (zGK i x s2=(decide (x=i) || s2.getD x false)):=rfl;obtain⟨wx,hwx⟩:∃wx,wx=wr:=⟨_,rfl⟩;subst hwx;have ix:(x:Int)<(N:Int):=by omega
     generalize hzz:s2.getD x false=zz at *;clear hzz;generalize hfr:zGK i x s2=fr at *;have HFQ:=zA hfr;clear hfr;have HFv:Hid (fr=(decide (x=i) || zz)):=HFr.out;clear HFr HFQ;by_cases hxi:x=i
     ·have b1:((x:Int)==(i:Int))=true:=by simp;omega
      obtain rfl:fr=true:=by rw[HFv.out,tm hxi];rfl
      clear HFv hxi;go_wp2_with fail
      go_loopw [16] (fun yv wr=>∃(y:Nat) (s3:List Bool),y<=N/\s3.length=N/\yv=.int .i64 y/\Hid (uP wr gb s3)/\Hid (vN gb w1 wr)/\Hid (lY m true x (N-y) y s3=lY m true x N 0 s2)) (fun yv _=>N-(intOf yv).toNat)
      case atStart=>exact⟨0,s2,tr _,hs2,rfl,HMx,HOx,zA rfl⟩
      case round =>
       obtain⟨y,s3,hy,hs3,rfl,HMy,HOy,HEy⟩:=hrel;clear HMx HOx hcx;by_cases hlty:y<N
       ·have hE:=HEy.out
        rw[Kz m true x N y s3 hlty]at hE;have HE3:=zA hE;clear HEy hE;have iy:(y:Int)<(N:Int):=by omega
        have hbw:Below w1.heap.size w1 wr:=HOy.out.below (t9 _) (by rw[HGB.out];exact t9 _);obtain⟨gm',cm',hv',zIY,hgm,hBr⟩:=(HM.out.below hbw).row hltx;obtain⟨rfl,rfl⟩:gm=gm'/\cm=cm':=by simpa using hv'
        have hmy:=hBr.cell (k:=y) (by rw[ZC];exact hlty);rw[Ja m x N y hlty]at hmy;have hcy:=HMy.out.cell (k:=y) (by omega);have hfz:=HMy.out.free y;clear hbw hv' hBr;generalize gs.getD x 0=gx at *;generalize m x y=z at *;cases z
        ·have HE4:Hid (lY m true x (N-(y+1)) (y+1) s3=lY m true x N 0 s2):=HE3.out
         clear HE3;go_wp2_with fail
         go_roundw
         case rel=>exact⟨y+1,s3,by omega,hs3,by go_num,HMy,HOy,HE4⟩
         case measure=>simp[intOf];omega
        ·have HE4:Hid (lY m true x (N-(y+1)) (y+1) (s3.set y true)=lY m true x N 0 s2):=HE3.out
         clear HE3;go_wp2_with fail
         go_roundw
         case rel=>exact⟨y+1,s3.set y true,by omega,by rw[List.length_set];exact hs3,by go_num,zA (HMy.out.set y true),zA (HOy.out.trans (vN.set _ _ _ _)),HE4⟩
         case measure=>simp[intOf];omega
       ·have HE4:Hid (lX m i N (N-(x+1)) (x+1) s3=lX m i N N 0 s):=by
         have h1:=HEy.out;rw[show N-y=0 by omega]at h1;have h2:=HE2.out;rw[<-h1]at h2;exact h2
        clear HEy HE2;go_wp2_with fail
        go_roundw
        case rel=>exact⟨x+1,s3,by omega,hs3,by go_num,HMy,HOy,HE4⟩
        case measure=>simp[intOf];omega
     ·have b1:((x:Int)==(i:Int))=false:=by simp;omega
      cases zz
      ·obtain rfl:fr=false:=by rw[HFv.out,th hxi];rfl
       clear HFv hxi;go_wp2_with fail
       go_loopw [16] (fun yv wr=>∃(y:Nat) (s3:List Bool),y<=N/\s3.length=N/\yv=.int .i64 y/\Hid (uP wr gb s3)/\Hid (vN gb w1 wr)/\Hid (lY m false x (N-y) y s3=lY m false x N 0 s2)) (fun yv _=>N-(intOf yv).toNat)
       case atStart=>exact⟨0,s2,tr _,hs2,rfl,HMx,HOx,zA rfl⟩
       case round =>
        obtain⟨y,s3,hy,hs3,rfl,HMy,HOy,HEy⟩:=hrel;clear HMx HOx hcx;by_cases hlty:y<N
        ·have hE:=HEy.out
         rw[Kz m false x N y s3 hlty]at hE;have HE3:=zA hE;clear HEy hE;have iy:(y:Int)<(N:Int):=by omega
         have HE4:Hid (lY m false x (N-(y+1)) (y+1) s3=lY m false x N 0 s2):=HE3.out;clear HE3;go_wp2_with fail
         go_roundw
         case rel=>exact⟨y+1,s3,by omega,hs3,by go_num,HMy,HOy,HE4⟩
         case measure=>simp[intOf];omega
        ·have HE4:Hid (lX m i N (N-(x+1)) (x+1) s3=lX m i N N 0 s):=by
          have h1:=HEy.out;rw[show N-y=0 by omega]at h1;have h2:=HE2.out;rw[<-h1]at h2;exact h2
         clear HEy HE2;go_wp2_with fail
         go_roundw
         case rel=>exact⟨x+1,s3,by omega,hs3,by go_num,HMy,HOy,HE4⟩
         case measure=>simp[intOf];omega
      ·obtain rfl:fr=true:=by rw[HFv.out,f8]
       clear HFv hxi;go_wp2_with fail
       go_loopw [16] (fun yv wr=>∃(y:Nat) (s3:List Bool),y<=N/\s3.length=N/\yv=.int .i64 y/\Hid (uP wr gb s3)/\Hid (vN gb w1 wr)/\Hid (lY m true x (N-y) y s3=lY m true x N 0 s2)) (fun yv _=>N-(intOf yv).toNat)
       case atStart=>exact⟨0,s2,tr _,hs2,rfl,HMx,HOx,zA rfl⟩
       case round =>
        obtain⟨y,s3,hy,hs3,rfl,HMy,HOy,HEy⟩:=hrel;clear HMx HOx hcx;by_cases hlty:y<N
        ·have hE:=HEy.out
         rw[Kz m true x N y s3 hlty]at hE;have HE3:=zA hE;clear HEy hE;have iy:(y:Int)<(N:Int):=by omega
         have hbw:Below w1.heap.size w1 wr:=HOy.out.below (t9 _) (by rw[HGB.out];exact t9 _);obtain⟨gm',cm',hv',zIY,hgm,hBr⟩:=(HM.out.below hbw).row hltx;obtain⟨rfl,rfl⟩:gm=gm'/\cm=cm':=by simpa using hv'
         have hmy:=hBr.cell (k:=y) (by rw[ZC];exact hlty);rw[Ja m x N y hlty]at hmy;have hcy:=HMy.out.cell (k:=y) (by omega);have hfz:=HMy.out.free y;clear hbw hv' hBr;generalize gs.getD x 0=gx at *;generalize m x y=z at *;cases z
         ·have HE4:Hid (lY m true x (N-(y+1)) (y+1) s3=lY m true x N 0 s2):=HE3.out
          clear HE3;go_wp2_with fail
          go_roundw
          case rel=>exact⟨y+1,s3,by omega,hs3,by go_num,HMy,HOy,HE4⟩
          case measure=>simp[intOf];omega
         ·have HE4:Hid (lY m true x (N-(y+1)) (y+1) (s3.set y true)=lY m true x N 0 s2):=HE3.out
          clear HE3;go_wp2_with fail
          go_roundw
          case rel=>exact⟨y+1,s3.set y true,by omega,by rw[List.length_set];exact hs3,by go_num,zA (HMy.out.set y true),zA (HOy.out.trans (vN.set _ _ _ _)),HE4⟩
          case measure=>simp[intOf];omega
        ·have HE4:Hid (lX m i N (N-(x+1)) (x+1) s3=lX m i N N 0 s):=by
          have h1:=HEy.out;rw[show N-y=0 by omega]at h1;have h2:=HE2.out;rw[<-h1]at h2;exact h2
         clear HEy HE2;go_wp2_with fail
         go_roundw
         case rel=>exact⟨x+1,s3,by omega,hs3,by go_num,HMy,HOy,HE4⟩
         case measure=>simp[intOf];omega
    ·have HE2:Hid (lN m i N (N+1-(n+1)) s2=lN m i N (N+1) (List.replicate N false)):=by
      have h1:=HEx.out;rw[show N-x=0 by omega]at h1;have h2:=HE1.out;rw[<-h1]at h2;exact h2
     clear HEx HE1;go_wp2_with fail
     go_roundw
     case rel=>exact⟨n+1,s2,by omega,hs2,by go_num,HMx,HOx,HE2⟩
     case measure=>simp[intOf];omega
  ·have HE1:Hid (ans=s.getD k false):=by
    have h1:=HEn.out;rw[show N+1-n=0 by omega]at h1;unfold Hid;rw[HL.out,<-h1];rfl
   have hck:=HMn.out.cell (k:=k) (by omega);have ik:(k:Int)<(N:Int):=by omega
   have inN:¬(n:Int)<=(N:Int):=by omega
   have HBf:Hid (Below w.heap.size w wr):=HBl.out.trans (HOn.out.below HBl.out.size (by rw[<-HGB.out];exact HBl.out.size));clear HEn HL;generalize s.getD k false=zk at *;go_wp2_with fail
   go_ret
   exact⟨zE HE1.out.symm,HBf.out⟩
theorem sP(p:Nat->Bool)(N i:Nat)(h:i<N):((List.range N).drop i).any p=(p i || ((List.range N).drop (i+1)).any p):=by
 rw[pb (by simpa using h),mt,List.getElem_range]
theorem Vq(w:World)(a:Option Addr)(cp:Nat)(ls:List zF)(us:List zG)(r:Bool)(h:bF w a us)(hA:yQ ls us) :
 Calls Tryz.prog 77 #[.slice a us.length cp,.bool r] w fun e w'=>e=.returned (.bool (dZ us r))/\Below w.heap.size w w':=by
 have zIP:=h.few;have HR:=zA h;have HA:=zA hA;have HH:=zA (Fk w a cp ls us h hA);have HLb:=zA (fun w' (hb:Below w.heap.size w w')=>UP w' a cp ls us (h.below hb) hA);clear h hA;cases r
 ·have HRg:Hid (dZ us false=wN (jG us false (jB us)) (jB us).length):=rfl
  generalize dZ us false=ans at *
  go_enter Tryz.func77,Tryz.ntmps77
  go_wp2_with fail
  refine HH.out.mono ?_;rintro e w1 ⟨v,rfl,zID,zIH,hb1⟩;obtain⟨na,nc,rfl,hstr⟩:=nX zID (by omega);have HB1:=zA hb1;have zJ4:=zA hstr;clear zID hb1 hstr HH HLb;generalize jB us=names at *;go_wp2_with fail
  go_loopw [6] (fun iv wr=>∃(i:Nat),i<=names.length/\iv=.int .i64 i/\Hid (Below w1.heap.size w1 wr)/\Hid (((List.range names.length).drop i).any (fun i=>lU (jG us false names) names.length i i)=ans)) (fun iv _=>names.length-(intOf iv).toNat)
  case atStart=>exact⟨0,tr _,rfl,zA (tl _ _),zA HRg.out.symm⟩
  case round =>
   obtain⟨i,hi,rfl,HB,HE⟩:=hrel;clear HRg;have hbw:Below w.heap.size w wr:=HB1.out.trans (HB.out.mono HB1.out.size);have zJ6:=zA hbw;by_cases zIB:i<names.length
   ·have HLd:=zA (KU wr a cp ls us false na nc names i i zIB (HR.out.below hbw) HA.out (zJ4.out.below HB.out))
    have hE:=HE.out;rw[sP _ _ i zIB]at hE;have HE2:=zA hE;clear HE hE hbw;generalize lU (jG us false names) names.length i i=z at *;cases z
    ·have HE3:Hid (((List.range names.length).drop (i+1)).any (fun i=>lU (jG us false names) names.length i i)=ans):=by have:=HE2.out;rw[pm]at this;exact this
     clear HE2;go_wp2_with fail
     refine HLd.out.mono ?_;rintro e w2 ⟨rfl,hb2⟩;have HB2:Hid (Below w1.heap.size w1 w2):=HB.out.trans (hb2.mono HB.out.size);clear hb2;go_wp2_with fail
     go_roundw
     case rel=>exact⟨i+1,by omega,by go_num,HB2,HE3⟩
     case measure=>simp[intOf];omega
    ·have HE3:Hid (ans=true):=by have:=HE2.out;rw[dq]at this;exact this.symm
     clear HE2;go_wp2_with fail
     refine HLd.out.mono ?_;rintro e w2 ⟨rfl,hb2⟩;have HB2:Hid (Below w.heap.size w w2):=zJ6.out.trans (hb2.mono zJ6.out.size);clear hb2;go_wp2_with fail
     go_ret
     exact⟨zE HE3.out.symm,HB2.out⟩
   ·have HE3:Hid (ans=false):=by have:=HE.out;rw[tu (by simp;omega)]at this;exact this.symm
    clear HE hbw;go_wp2_with fail
    go_ret
    exact⟨zE HE3.out.symm,zJ6.out⟩
 ·have HRg:Hid (dZ us true=wN (jG us true (pS us)) (pS us).length):=rfl
  generalize dZ us true=ans at *
  go_enter Tryz.func77,Tryz.ntmps77
  go_wp2_with fail
  refine HH.out.mono ?_;rintro e w0 ⟨v0,rfl,hown0,hlen0,hb0⟩;obtain⟨na0,nc0,rfl,_⟩:=nX hown0 (by omega);have HB0:=zA hb0;clear hown0 hb0;go_wp2_with fail
  refine(HLb.out _ HB0.out).mono ?_;rintro e w1 ⟨v,rfl,zID,zIH,hb1⟩;obtain⟨na,nc,rfl,hstr⟩:=nX zID (by omega);have HB1:Hid (Below w.heap.size w w1):=HB0.out.trans (hb1.mono HB0.out.size);have zJ4:=zA hstr;clear zID hb1 hstr HH HLb HB0;generalize pS us=names at *;go_wp2_with fail
  go_loopw [6] (fun iv wr=>∃(i:Nat),i<=names.length/\iv=.int .i64 i/\Hid (Below w1.heap.size w1 wr)/\Hid (((List.range names.length).drop i).any (fun i=>lU (jG us true names) names.length i i)=ans)) (fun iv _=>names.length-(intOf iv).toNat)
  case atStart=>exact⟨0,tr _,rfl,zA (tl _ _),zA HRg.out.symm⟩
  case round =>
   obtain⟨i,hi,rfl,HB,HE⟩:=hrel;clear HRg;have hbw:Below w.heap.size w wr:=HB1.out.trans (HB.out.mono HB1.out.size);have zJ6:=zA hbw;by_cases zIB:i<names.length
   ·have HLd:=zA (KU wr a cp ls us true na nc names i i zIB (HR.out.below hbw) HA.out (zJ4.out.below HB.out))
    have hE:=HE.out;rw[sP _ _ i zIB]at hE;have HE2:=zA hE;clear HE hE hbw;generalize lU (jG us true names) names.length i i=z at *;cases z
    ·have HE3:Hid (((List.range names.length).drop (i+1)).any (fun i=>lU (jG us true names) names.length i i)=ans):=by have:=HE2.out;rw[pm]at this;exact this
     clear HE2;go_wp2_with fail
     refine HLd.out.mono ?_;rintro e w2 ⟨rfl,hb2⟩;have HB2:Hid (Below w1.heap.size w1 w2):=HB.out.trans (hb2.mono HB.out.size);clear hb2;go_wp2_with fail
     go_roundw
     case rel=>exact⟨i+1,by omega,by go_num,HB2,HE3⟩
     case measure=>simp[intOf];omega
    ·have HE3:Hid (ans=true):=by have:=HE2.out;rw[dq]at this;exact this.symm
     clear HE2;go_wp2_with fail
     refine HLd.out.mono ?_;rintro e w2 ⟨rfl,hb2⟩;have HB2:Hid (Below w.heap.size w w2):=zJ6.out.trans (hb2.mono zJ6.out.size);clear hb2;go_wp2_with fail
     go_ret
     exact⟨zE HE3.out.symm,HB2.out⟩
   ·have HE3:Hid (ans=false):=by have:=HE.out;rw[tu (by simp;omega)]at this;exact this.symm
    clear HE hbw;go_wp2_with fail
    go_ret
    exact⟨zE HE3.out.symm,zJ6.out⟩
end Go.Proofs.YtnbpdffdnphbeaaGreatDoor
