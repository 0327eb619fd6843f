import Derived.Test.YtnbpdffdnphbeaaGreatDoorRfBase
import Derived.Test.YtnbpdffdnphbeaaGreatDoorPRing
import Derived.Deep.OwnRows
set_option maxHeartbeats 4000000
namespace Go.Proofs.YtnbpdffdnphbeaaGreatDoor
open Go.RowKit
variable{l:List Bool}{gs:List Nat}{g B:Nat}{v:Value}{w' w:World}(m:Nat->Nat->Bool)(us:List zG)(i N k:Nat)
theorem Uj(acc:List Bs)(h:i<us.length):dC us (us.length-i) i acc=dC us (us.length-(i+1)) (i+1) (if cA (uA us i) 0=zR/\zW us zR 3 (tA (uA us i) 3)=(i:Int) then acc++[tA (uA us i) 3] else acc):=by
 rw[show us.length-i=(us.length-(i+1))+1 by omega,dC]
theorem C6(acc:List Bs)(h:i<us.length):sG us (us.length-i) i acc=sG us (us.length-(i+1)) (i+1) (if cA (uA us i) 0=zR then acc++[tA (uA us i) 1] else acc):=by
 rw[show us.length-i=(us.length-(i+1))+1 by omega,sG]
theorem Fp(w:World)(a:Option Addr)(c:Nat)(ls:List zF)(us:List zG)(h:bG w a us)(hA:yP ls us) :
 Calls Tryz.prog 64 #[.slice a us.length c] w fun e w'=>∃v,e=.returned v/\w'.ownsRow w.heap.size 9 1 v (qM us).length (mG (qM us))/\(qM us).length<=us.length/\Below w.heap.size w w':=by
 obtain⟨i0,hi0,hz0,hz1,hz2⟩:=dp Zr;have HR:=zA h;have zII:=h.few;have HA:=zA hA;obtain⟨B,hB⟩:∃B,B=w.heap.size:=⟨_,rfl⟩;have HB0:=zA hB;clear h hA hB
 go_enter Tryz.func64,Tryz.ntmps64
 go_wp2_with fail
 go_loopw [3,4] (fun ov iv wr=>∃(i:Nat) (acc:List Bs),i<=us.length/\acc.length<=i/\iv=.int .i64 i/\Hid (wr.ownsRow B 9 1 ov acc.length (mG acc))/\Hid (Below B w wr)/\Hid (dC us (us.length-i) i acc=qM us)) (fun _ iv _=>us.length-(intOf iv).toNat)
 case atStart=>exact⟨0,[],tr _,t9 _,rfl,zA (lk _ _ _ _),zA (tj _ _),zA rfl⟩
 case round =>
  obtain⟨i,acc,hi,hacc,rfl,HO,HB,HE⟩:=hrel;by_cases zI6:i<us.length
  ·have hRr:=HR.out.below (by have:=HB.out;rwa [HB0.out]at this)
   have HF:=zA (fun nm=>Ut wr a c ls us nm hRr HA.out);obtain⟨gl,g,o,cu,rfl,zIR,zIA,hlc,hcm,hsm⟩:=hRr.at zI6;have hx:=HA.out.get i zI6;have h2:=hx.two;have hc0:=(zIA.tok (show 0<(uA us i).length by omega)).2;rw[my,pq]at hc0;have il0:(0:Int)<((uA us i).length:Int):=by omega
   have hE:=HE.out;rw[Uj us i acc zI6]at hE;have HE2:=zA hE;have zIJ:B<=wr.heap.size:=by have:=HB.out.size;have h2:=HB0.out;omega
   have HLn:=zA (fun hk=>hx.len hk);have HSg:=zA zIA;clear HE hE hRr hx zIA;by_cases k1:cA (uA us i) 0=zR
   ·have h6:=HLn.out k1
    have hc3:=(HSg.out.tok (show 3<(uA us i).length by omega)).1;rw[show 3*3=9 from rfl]at hc3;rw[k1]at hc0 HE2;simp only[zR]at hc0;have il3:(3:Int)<((uA us i).length:Int):=by omega
    have HF2:Hid (∀nm:Bs,Calls Tryz.prog 110 #[.slice (some ⟨gl,0,none⟩) us.length c,.string ⟨#[114,117,108,101]⟩,.int .i64 3,.string ⟨nm.toArray⟩] wr fun e w'=>e=.returned (.int .i64 (zW us zR 3 nm))/\w'=wr):=HF;clear HF k1 HLn HSg;generalize tA (uA us i) 3=cc at *;have HF3:=zA (HF2.out cc);clear HF2;generalize zW us zR 3 cc=f at *;by_cases k2:f=(i:Int)
    ·have HE3:Hid (dC us (us.length-(i+1)) (i+1) (acc++[cc])=qM us):=by have:=HE2.out;rw[tl ⟨rfl,k2⟩]at this;exact this
     subst k2;clear HE2;go_wp2_with fail
     refine HF3.out.mono ?_;rintro e w1 ⟨rfl,hw⟩;obtain rfl:=hw.symm
     go_wp2_with (at_builtin;refine wpList_append_own _ rfl _ _ 37 rfl B 9 i0 _ 1 16 Tryz.underlying37 hi0 hz0 hz1 hz2 rfl (by decide) _ _ _ rfl (HO.out.alloc _) ⟨wr.heap.size,0,none⟩ 1 1 [.string ⟨cc.toArray⟩] rfl rfl ?c1 ?c2 ?c3 ?c4 ?c5 ?_)
     case c1=>exact zZ _ _ _ _ rfl
     case c2=>intro u hu;simp at hu;subst hu;rfl
     case c3=>unfold maxLen;omega
     case c4=>omega
     case c5=>simp;omega
     intro v' w2 zI9 zI7 _;have HB2:Hid (Below B w w2):=(HB.out.alloc zIJ _).grown zI7 (by simp;omega) (zN HO.out);have HO2:Hid (w2.ownsRow B 9 1 v' (acc++[cc]).length (mG (acc++[cc]))):=by unfold Hid;rw[dR];simpa using zI9
     clear zI7 zI9;go_wp2_with fail
     go_roundw
     case rel=>exact⟨i+1,acc++[cc],by omega,by simp;omega,by go_num,HO2,HB2,HE3⟩
     case measure=>simp[intOf];omega
    ·have HE3:Hid (dC us (us.length-(i+1)) (i+1) acc=qM us):=by have:=HE2.out;rw[tg (fun h=>k2 h.2)]at this;exact this
     have b2:(f==(i:Int))=false:=by simpa using k2
     clear HE2 k2;go_wp2_with fail
     refine HF3.out.mono ?_;rintro e w1 ⟨rfl,hw⟩;obtain rfl:=hw.symm;go_wp2_with fail
     go_roundw
     case rel=>exact⟨i+1,acc,by omega,by omega,by go_num,HO,HB,HE3⟩
     case measure=>simp[intOf];omega
   ·have HE3:Hid (dC us (us.length-(i+1)) (i+1) acc=qM us):=by have:=HE2.out;rw[tg (fun h=>k1 h.1)]at this;exact this
    have b1:(cA (uA us i) 0==[114,117,108,101])=false:=by simpa[zR] using k1
    clear HE2 k1 HF HLn HSg;generalize cA (uA us i) 0=cl at *;go_wp2_with fail
    go_roundw
    case rel=>exact⟨i+1,acc,by omega,by omega,by go_num,HO,HB,HE3⟩
    case measure=>simp[intOf];omega
  ·have HE3:Hid (acc=qM us):=by have:=HE.out;rw[show us.length-i=0 by omega]at this;exact this
   clear HE;go_wp2_with fail
   go_ret
   exact⟨_,rfl,by rw[<-HE3.out,<-HB0.out];exact HO.out,by rw[<-HE3.out];omega,by rw[<-HB0.out];exact HB.out⟩
theorem UU(w:World)(a:Option Addr)(c:Nat)(ls:List zF)(us:List zG)(h:bG w a us)(hA:yP ls us) :
 Calls Tryz.prog 133 #[.slice a us.length c] w fun e w'=>∃v,e=.returned v/\w'.ownsRow w.heap.size 9 1 v (pT us).length (mG (pT us))/\(pT us).length<=us.length/\Below w.heap.size w w':=by
 obtain⟨i0,hi0,hz0,hz1,hz2⟩:=dp Zr;have HR:=zA h;have zII:=h.few;have HA:=zA hA;obtain⟨B,hB⟩:∃B,B=w.heap.size:=⟨_,rfl⟩;have HB0:=zA hB;clear h hA hB
 go_enter Tryz.func133,Tryz.ntmps133
 go_wp2_with fail
 go_loopw [3,4] (fun ov iv wr=>∃(i:Nat) (acc:List Bs),i<=us.length/\acc.length<=i/\iv=.int .i64 i/\Hid (wr.ownsRow B 9 1 ov acc.length (mG acc))/\Hid (Below B w wr)/\Hid (sG us (us.length-i) i acc=pT us)) (fun _ iv _=>us.length-(intOf iv).toNat)
 case atStart=>exact⟨0,[],tr _,t9 _,rfl,zA (lk _ _ _ _),zA (tj _ _),zA rfl⟩
 case round =>
  obtain⟨i,acc,hi,hacc,rfl,HO,HB,HE⟩:=hrel;by_cases zI6:i<us.length
  ·have hRr:=HR.out.below (by have:=HB.out;rwa [HB0.out]at this)
   obtain⟨gl,g,o,cu,rfl,zIR,zIA,hlc,hcm,hsm⟩:=hRr.at zI6;have hx:=HA.out.get i zI6;have h2:=hx.two;have hc0:=(zIA.tok (show 0<(uA us i).length by omega)).2;have hc1:=(zIA.tok (show 1<(uA us i).length by omega)).1;rw[my,pq]at hc0;rw[du]at hc1;have il0:(0:Int)<((uA us i).length:Int):=by omega
   have il1:(1:Int)<((uA us i).length:Int):=by omega
   have hE:=HE.out;rw[C6 us i acc zI6]at hE;have HE2:=zA hE;have zIJ:B<=wr.heap.size:=by have:=HB.out.size;have h2:=HB0.out;omega
   clear HE hE hRr hx zIA;by_cases k1:cA (uA us i) 0=zR
   ·rw[k1]at hc0
    simp only[zR]at hc0;have HE3:Hid (sG us (us.length-(i+1)) (i+1) (acc++[tA (uA us i) 1])=pT us):=by have:=HE2.out;rw[tl k1]at this;exact this
    clear k1 HE2;generalize tA (uA us i) 1=cc at *
    go_wp2_with (at_builtin;refine wpList_append_own _ rfl _ _ 37 rfl B 9 i0 _ 1 16 Tryz.underlying37 hi0 hz0 hz1 hz2 rfl (by decide) _ _ _ rfl (HO.out.alloc _) ⟨wr.heap.size,0,none⟩ 1 1 [.string ⟨cc.toArray⟩] rfl rfl ?c1 ?c2 ?c3 ?c4 ?c5 ?_)
    case c1=>exact zZ _ _ _ _ rfl
    case c2=>intro u hu;simp at hu;subst hu;rfl
    case c3=>unfold maxLen;omega
    case c4=>omega
    case c5=>simp;omega
    intro v' w2 zI9 zI7 _;have HB2:Hid (Below B w w2):=(HB.out.alloc zIJ _).grown zI7 (by simp;omega) (zN HO.out);have HO2:Hid (w2.ownsRow B 9 1 v' (acc++[cc]).length (mG (acc++[cc]))):=by unfold Hid;rw[dR];simpa using zI9
    clear zI7 zI9;go_wp2_with fail
    go_roundw
    case rel=>exact⟨i+1,acc++[cc],by omega,by simp;omega,by go_num,HO2,HB2,HE3⟩
    case measure=>simp[intOf];omega
   ·have HE3:Hid (sG us (us.length-(i+1)) (i+1) acc=pT us):=by have:=HE2.out;rw[tg k1]at this;exact this
    have b1:(cA (uA us i) 0==[114,117,108,101])=false:=by simpa[zR] using k1
    clear HE2 k1;generalize cA (uA us i) 0=cl at *;go_wp2_with fail
    go_roundw
    case rel=>exact⟨i+1,acc,by omega,by omega,by go_num,HO,HB,HE3⟩
    case measure=>simp[intOf];omega
  ·have HE3:Hid (acc=pT us):=by have:=HE.out;rw[show us.length-i=0 by omega]at this;exact this
   clear HE;go_wp2_with fail
   go_ret
   exact⟨_,rfl,by rw[<-HE3.out,<-HB0.out];exact HO.out,by rw[<-HE3.out];omega,by rw[<-HB0.out];exact HB.out⟩
theorem JG(p:zG->Bool)(us:List zG)(i:Nat)(h:i<us.length):(us.drop i).any p=(p (uA us i) || (us.drop (i+1)).any p):=by
 rw[pb h,mt];simp[uA,List.getD,h]
theorem qu(u:zG)(d:Bs)(k:Nat)(h:k<u.length):Jr u d (u.length-k) k=(Ko u d k || Jr u d (u.length-(k+1)) (k+1)):=by
 rw[show u.length-k=(u.length-(k+1))+1 by omega,Jr]
theorem zEH(w:World)(a:Option Addr)(cp:Nat)(ls:List zF)(us:List zG)(c d:Bs)(h:bG w a us)(hA:yP ls us) :
 Calls Tryz.prog 111 #[.slice a us.length cp,.string ⟨c.toArray⟩,.string ⟨d.toArray⟩] w fun e w'=>e=.returned (.bool (cY us c d))/\w'=w:=by
 have HR:=zA h;have zII:=h.few;have HA:=zA hA;clear h hA
 go_enter Tryz.func111,Tryz.ntmps111
 go_wp2_with fail
 go_loop [7] (fun iv=>∃(i:Nat),i<=us.length/\iv=.int .i64 i/\Hid ((us.drop i).any (qt c d)=cY us c d)) (fun iv=>us.length-(intOf iv).toNat)
 case atStart=>exact⟨0,tr _,rfl,zA rfl⟩
 case round =>
  obtain⟨i,hi,rfl,HE⟩:=hrel;by_cases zI6:i<us.length
  ·obtain⟨gl,g,o,cu,rfl,zIR,zIA,hlc,hcm,hsm⟩:=HR.out.at zI6
   have hx:=HA.out.get i zI6;have h2:=hx.two;have hc0:=(zIA.tok (show 0<(uA us i).length by omega)).2;rw[my,pq]at hc0;have il0:(0:Int)<((uA us i).length:Int):=by omega
   have hE:=HE.out;rw[JG _ us i zI6]at hE;have HE2:=zA hE;have HRl:=zA (fun hk=>hx.rule hk);have HSg:=zA zIA;clear HE hE hx zIA;generalize uA us i=u at *;by_cases k1:cA u 0=zR
   ·obtain⟨w0,hw⟩:=HRl.out k1
    have hwlo:=hw.wlo;have hwhi:=hw.whi;have HWn:=zA hw.wB;have HWA:=zA hw.wAt;have hc3:=(HSg.out.tok (show 3<u.length by omega)).1;rw[show 3*3=9 from rfl]at hc3;have il3:(3:Int)<(u.length:Int):=by omega
    by_cases k2:tA u 3=c
    ·have HE3:Hid ((Jr u d (u.length-5) 5 || (us.drop (i+1)).any (qt c d))=cY us c d):=by have:=HE2.out;unfold qt at this;rw[tm k1,tm k2]at this;exact this
     rw[k1]at hc0;simp only[zR]at hc0;rw[k2]at hc3;clear HE2 k1 k2 HRl hw;go_wp2_with fail
     refine(wC u g o cu _ HSg.out (by omega) hlc).mono ?_;rintro e w1 ⟨rfl,hw⟩;obtain rfl:=hw.symm;rw[HWn.out];go_wp2_with fail
     go_loop [10] (fun kv=>∃(k:Nat),5<=k/\k<=u.length/\kv=.int .i64 k/\Hid (Jr u d (u.length-k) k=Jr u d (u.length-5) 5)) (fun kv=>u.length-(intOf kv).toNat)
     case atStart=>exact⟨5,t9 _,by omega,rfl,zA rfl⟩
     case round =>
      obtain⟨k,hk5,hk,rfl,HEk⟩:=hrel;by_cases zJ5:k<u.length
      ·have hck:=(HSg.out.tok zJ5).2
       have htk:=(HSg.out.tok zJ5).1;obtain⟨k',rfl⟩:∃k',k=k'+1:=⟨k-1,by omega⟩;have hcp:=(HSg.out.tok (show k'<u.length by omega)).2;have ikl:((k':Int)+1)<(u.length:Int):=by omega
       have ikp:(k':Int)<(u.length:Int):=by omega
       have hE:=HEk.out;rw[qu u d (k'+1) zJ5]at hE;unfold Ko at hE;rw[HWA.out,show k'+1-1=k' by omega]at hE;have HE4:=zA hE;clear HEk hE;generalize cA u (k'+1)=cl at *;generalize tA u (k'+1)=tt at *;generalize cA u k'=clp at *;by_cases j1:cl=yU
       ·have b1:(cl==[78,65,77,69])=true:=by simpa[yU] using j1
        by_cases j2:tt=d
        ·have b2:(tt==d)=true:=by simpa using j2
         by_cases j3:k'+1<w0
         ·have HF:Hid (cY us c d=true):=by unfold Hid;rw[<-HE3.out,<-HE4.out,tm j1,tm j2,tm j3];rfl
          have i3:((k':Int)+1)<(w0:Int):=by omega
          clear HE4 j1 j2;go_wp2_with fail
          go_ret
          exact⟨zE HF.out.symm,rfl⟩
         ·have i3:decide (((k':Int)+1)<(w0:Int))=false:=th (by omega)
          by_cases j4:clp=[104,97,115]
          ·have HF:Hid (cY us c d=true):=by unfold Hid;rw[<-HE3.out,<-HE4.out,tm j1,tm j2,tm j4,dy];rfl
           have b4:(clp==[104,97,115])=true:=by simpa using j4
           clear HE4 j1 j2 j4;go_wp2_with fail
           go_ret
           exact⟨zE HF.out.symm,rfl⟩
          ·have HE5:Hid (Jr u d (u.length-(k'+1+1)) (k'+1+1)=Jr u d (u.length-5) 5):=by have:=HE4.out;rw[th j3,th j4,pm,lp,lp,pm]at this;exact this
           have b4:(clp==[104,97,115])=false:=by simpa using j4
           clear HE4 j1 j2 j4;go_wp2_with fail
           go_round
           case rel=>exact⟨k'+1+1,by omega,by omega,by go_num,HE5⟩
           case measure=>simp[intOf];omega
        ·have HE5:Hid (Jr u d (u.length-(k'+1+1)) (k'+1+1)=Jr u d (u.length-5) 5):=by have:=HE4.out;rw[th j2,l5,lp,pm]at this;exact this
         have b2:(tt==d)=false:=by simpa using j2
         clear HE4 j1 j2;go_wp2_with fail
         go_round
         case rel=>exact⟨k'+1+1,by omega,by omega,by go_num,HE5⟩
         case measure=>simp[intOf];omega
       ·have HE5:Hid (Jr u d (u.length-(k'+1+1)) (k'+1+1)=Jr u d (u.length-5) 5):=by have:=HE4.out;rw[th j1,l5,pm]at this;exact this
        have b1:(cl==[78,65,77,69])=false:=by simpa[yU] using j1
        clear HE4 j1;go_wp2_with fail
        go_round
        case rel=>exact⟨k'+1+1,by omega,by omega,by go_num,HE5⟩
        case measure=>simp[intOf];omega
      ·have HE5:Hid ((us.drop (i+1)).any (qt c d)=cY us c d):=by
        have h1:=HEk.out;rw[show u.length-k=0 by omega]at h1;have h2:=HE3.out;rw[<-h1]at h2;exact h2
       clear HEk HE3;go_wp2_with fail
       go_round
       case rel=>exact⟨i+1,by omega,by go_num,HE5⟩
       case measure=>simp[intOf];omega
    ·have HE3:Hid ((us.drop (i+1)).any (qt c d)=cY us c d):=by have:=HE2.out;unfold qt at this;rw[th k2,l5,lp,pm]at this;exact this
     have b2:(tA u 3==c)=false:=by simpa using k2
     rw[k1]at hc0;simp only[zR]at hc0;clear HE2 k1 k2 HRl hw;generalize tA u 3=tt at *;go_wp2_with fail
     go_round
     case rel=>exact⟨i+1,by omega,by go_num,HE3⟩
     case measure=>simp[intOf];omega
   ·have HE3:Hid ((us.drop (i+1)).any (qt c d)=cY us c d):=by have:=HE2.out;unfold qt at this;rw[th k1,l5,pm]at this;exact this
    have b1:(cA u 0==[114,117,108,101])=false:=by simpa[zR] using k1
    clear HE2 k1 HRl;generalize cA u 0=cl at *;go_wp2_with fail
    go_round
    case rel=>exact⟨i+1,by omega,by go_num,HE3⟩
    case measure=>simp[intOf];omega
  ·have HE3:Hid (cY us c d=false):=by have:=HE.out;rw[tu (by omega)]at this;exact this.symm
   clear HE;go_wp2_with fail
   go_ret
   exact⟨zE HE3.out.symm,rfl⟩
theorem zGY(w:World)(a:Option Addr)(cp:Nat)(ls:List zF)(us:List zG)(x y:Bs)(h:bG w a us)(hA:yP ls us) :
 Calls Tryz.prog 200 #[.slice a us.length cp,.string ⟨x.toArray⟩,.string ⟨y.toArray⟩] w fun e w'=>e=.returned (.bool (rX us x y))/\w'=w:=by
 have HR:=zA h;have zII:=h.few;have HA:=zA hA;clear h hA
 go_enter Tryz.func200,Tryz.ntmps200
 go_wp2_with fail
 go_loop [7] (fun iv=>∃(i:Nat),i<=us.length/\iv=.int .i64 i/\Hid ((us.drop i).any (qi x y)=rX us x y)) (fun iv=>us.length-(intOf iv).toNat)
 case atStart=>exact⟨0,tr _,rfl,zA rfl⟩
 case round =>
  obtain⟨i,hi,rfl,HE⟩:=hrel;by_cases zI6:i<us.length
  ·obtain⟨gl,g,o,cu,rfl,zIR,zIA,hlc,hcm,hsm⟩:=HR.out.at zI6
   have hx:=HA.out.get i zI6;have h2:=hx.two
   have h3:cA (uA us i) 0=tZ->3<=(uA us i).length:=fun hk=>by
    rcases hx.kind with ⟨_,b,_⟩|⟨_,b⟩|⟨_,_,h3,_⟩|⟨_,b,_⟩
    ·exact absurd (b.symm.trans hk) (by decide)
    ·exact absurd (b.symm.trans hk) (by decide)
    ·exact h3
    ·exact absurd (b.symm.trans hk) (by decide)
   have H3:=zA h3;have hc0:=(zIA.tok (show 0<(uA us i).length by omega)).2;have hc1:=(zIA.tok (show 1<(uA us i).length by omega)).1;rw[my,pq]at hc0;rw[du]at hc1;have il0:(0:Int)<((uA us i).length:Int):=by omega
   have il1:(1:Int)<((uA us i).length:Int):=by omega
   have hE:=HE.out;rw[JG _ us i zI6]at hE;have HE2:=zA hE;have HSg:=zA zIA;clear HE hE hx zIA h3;generalize uA us i=u at *;by_cases k1:cA u 0=tZ
   ·have h3:=H3.out k1
    have hc2:=(HSg.out.tok (show 2<u.length by omega)).1;rw[show 2*3=6 from rfl]at hc2;have il2:(2:Int)<(u.length:Int):=by omega
    rw[k1]at hc0;simp only[tZ]at hc0;by_cases k2:tA u 1=x
    ·by_cases k3:tA u 2=y
     ·have HF:Hid (rX us x y=true):=by have:=HE2.out;unfold qi at this;rw[tm k1,tm k2,tm k3]at this;exact this.symm
      have b2:(tA u 1==x)=true:=by simpa using k2
      have b3:(tA u 2==y)=true:=by simpa using k3
      clear HE2 k1 k2 k3 H3;generalize tA u 1=t1 at *;generalize tA u 2=t2 at *;go_wp2_with fail
      go_ret
      exact⟨zE HF.out.symm,rfl⟩
     ·have HE3:Hid ((us.drop (i+1)).any (qi x y)=rX us x y):=by have:=HE2.out;unfold qi at this;rw[th k3,lp,lp,pm]at this;exact this
      have b2:(tA u 1==x)=true:=by simpa using k2
      have b3:(tA u 2==y)=false:=by simpa using k3
      clear HE2 k1 k2 k3 H3;generalize tA u 1=t1 at *;generalize tA u 2=t2 at *;go_wp2_with fail
      go_round
      case rel=>exact⟨i+1,by omega,by go_num,HE3⟩
      case measure=>simp[intOf];omega
    ·have HE3:Hid ((us.drop (i+1)).any (qi x y)=rX us x y):=by have:=HE2.out;unfold qi at this;rw[th k2,l5,lp,pm]at this;exact this
     have b2:(tA u 1==x)=false:=by simpa using k2
     clear HE2 k1 k2 H3;generalize tA u 1=t1 at *;go_wp2_with fail
     go_round
     case rel=>exact⟨i+1,by omega,by go_num,HE3⟩
     case measure=>simp[intOf];omega
   ·have HE3:Hid ((us.drop (i+1)).any (qi x y)=rX us x y):=by have:=HE2.out;unfold qi at this;rw[th k1,l5,pm]at this;exact this
    have b1:(cA u 0==[111,118,101,114])=false:=by simpa[tZ] using k1
    clear HE2 k1 H3;generalize cA u 0=cl at *;go_wp2_with fail
    go_round
    case rel=>exact⟨i+1,by omega,by go_num,HE3⟩
    case measure=>simp[intOf];omega
  ·have HE3:Hid (rX us x y=false):=by have:=HE.out;rw[tu (by omega)]at this;exact this.symm
   clear HE;go_wp2_with fail
   go_ret
   exact⟨zE HE3.out.symm,rfl⟩
theorem zFN(w:World)(a:Option Addr)(cp:Nat)(ls:List zF)(us:List zG)(r:Bool)(x y:Bs)(h:bG w a us)(hA:yP ls us) :
 Calls Tryz.prog 143 #[.slice a us.length cp,.bool r,.string ⟨x.toArray⟩,.string ⟨y.toArray⟩] w fun e w'=>e=.returned (.bool (rL us r x y))/\w'=w:=by
 have H1:=zA (zGY w a cp ls us x y h hA);have H2:=zA (zEH w a cp ls us x y h hA);clear h hA;cases r
 ·have HR:Hid (rL us false x y=cY us x y):=rfl
  generalize rL us false x y=z at *
  go_enter Tryz.func143,Tryz.ntmps143
  go_wp2_with fail
  refine H2.out.mono ?_;rintro e w1 ⟨rfl,hw⟩;obtain rfl:=hw.symm;go_wp2_with fail
  go_ret
  exact⟨zE HR.out.symm,rfl⟩
 ·have HR:Hid (rL us true x y=rX us x y):=rfl
  generalize rL us true x y=z at *
  go_enter Tryz.func143,Tryz.ntmps143
  go_wp2_with fail
  refine H1.out.mono ?_;rintro e w1 ⟨rfl,hw⟩;obtain rfl:=hw.symm;go_wp2_with fail
  go_ret
  exact⟨zE HR.out.symm,rfl⟩
def uU(w:World)(g:Nat)(l:List Bool):Prop:=w.heap[g]? = some (.cells (gC l) 4 (0,0))
theorem uU.cell(h:uU w g l){k:Nat}(hk:k<l.length):w.cell? ⟨g,k,none⟩=some (.bool (l.getD k false)):=by
 simp only[World.cell?,show w.heap[g]? = _ from h];exact CJ hk
theorem uU.free(h:uU w g l)(k:Nat):w.frozen? ⟨g,k,none⟩=false:=by simp[World.frozen?,show w.heap[g]? = _ from h]
theorem uU.lt(h:uU w g l):g<w.heap.size:=by
 rcases po g w.heap.size with h1|h1
 ·exact h1
 ·have h2:w.heap[g]? = _:=h;rw[pj h1]at h2;cases h2
theorem uU.set(h:uU w g l)(k:Nat)(b:Bool):uU (w.setCell ⟨g,k,none⟩ (.bool b)) g (l.set k b):=by
 unfold uU at h ⊢;rw[setCell_eq_setRow w g k _ _ _ _ h,ly w g (gC l) _ _ _ h];congr 2
 simp[gC,List.map_set]
theorem vP.drew{a b:World}(h:vP g a b):vP g a b.drew:=⟨h.os,h.tape,h.output,h.size,h.block⟩
theorem oF(n:Nat):madeCells #[Value.bool false] n=gC (List.replicate n false):=by
 apply Array.ext
 ·simp[madeCells,gC]
 ·intro i h1 h2
  simp[madeCells,gC,Nat.mod_one]
def cI(m:Nat->Nat->Bool)(i N k:Nat):List Bool:=(List.range N).map fun j=>decide (j<k)&&m i j
theorem ZE:(cI m i N k).length=N:=by simp[cI]
theorem BG:cI m i N 0=List.replicate N false:=by
 apply List.ext_getElem
 ·simp[cI]
 ·intro n h1 h2;simp[cI]
theorem FP:(cI m i N k).set k (m i k)=cI m i N (k+1):=by
 apply List.ext_getElem
 ·simp[cI]
 ·intro n h1 h2
  simp only[cI,List.getElem_set,List.getElem_map,List.getElem_range];by_cases h:k=n
  ·subst h;simp
  ·rw[tg h]
   congr 1
   rw[bp];omega
theorem Ji(hk:k<N):(cI m i N N).getD k false=m i k:=by
 simp[cI,List.getD,hk]
def uq(N g:Nat):Value:=.slice (some ⟨g,0,none⟩) N N
structure Yg(B:Nat)(w:World)(v:Value)(gs:List Nat)(m:Nat->Nat->Bool)(N k:Nat):Prop where
 len:gs.length=k
 own:w.ownsRow B 180 1 v gs.length (gs.map (uq N))
 rows:∀j,j<k->uU w (gs.getD j 0) (cI m j N N)
theorem zDL:(Tryz.prog.info? 180).map (fun i=>(i.zero,i.size,i.bytes))=some (some (.slice none 0 0),1,24):=by kernel_rfl
theorem Zs:(Tryz.prog.info? 4).map (fun i=>(i.zero,i.size,i.bytes))=some (some (.bool false),1,1):=by kernel_rfl
theorem Jq{e:TypeId}{size:Nat}{n:Nat}{xs:List Value}(h:w.ownsRow B e size v n xs)(hb:Below w.heap.size w w'):w'.ownsRow B e size v n xs:=by
 refine⟨h.1,?_⟩;rcases h.2 with h1|⟨g,cap,yW,h1,h2,h3,r⟩
 ·exact .inl h1
 ·refine .inr ⟨g,cap,yW,h1,h2,?_,r⟩
  have zI6:g<w.heap.size:=by
   rcases po g w.heap.size with h|h
   ·exact h
   ·rw[pj h]at h3;cases h3
  rw[hb.block g zI6];exact h3
theorem uU.below(h:uU w g l)(hb:Below w.heap.size w w'):uU w' g l:=by
 have hl:=h.lt;unfold uU at h ⊢;rw[hb.block g hl];exact h
theorem uU.grown{n:Nat}{xs:List Value}(h:uU w g l)(hl:w.ownsRow B 180 1 v n xs)(hg:w.grownBy w' v.ownBlock):uU w' g l:=by
 have zI6:=h.lt;unfold uU at h ⊢;rw[hg.block g zI6 ?_];· exact h
 intro hE;rcases hl.2 with ⟨k1,_⟩|⟨g',cap',cur',k1,_,k3,_⟩
 ·rw[k1]at hE;simp[Value.ownBlock]at hE
 ·rw[k1]at hE
  simp[Value.ownBlock]at hE;subst hE;rw[h]at k3;simp at k3
theorem Yg.snoc{N i:Nat}{v':Value}{m:Nat->Nat->Bool}(h:Yg B w v gs m N i)(hr:uU w g (cI m i N N))(hg:w.grownBy w' v.ownBlock)(zI8:w'.ownsRow B 180 1 v' (gs.length+1) (gs.map (uq N)++[uq N g])):Yg B w' v' (gs++[g]) m N (i+1):=by
 refine⟨by rw[tq,pd,h.len],by rw[tq,List.map_append];exact zI8,fun j hj=>?_⟩;have hl:=h.len;rcases po j i with h1|h1
 ·have e:(gs++[g]).getD j 0=gs.getD j 0:=by rw[List.getD,List.getD,pw (by omega)]
  rw[e];exact(h.rows j h1).grown h.own hg
 ·obtain rfl:j=i:=by omega
  have e:(gs++[g]).getD j 0=g:=by rw[List.getD,pf (by omega),hl];simp
  rw[e];exact hr.grown h.own hg
theorem oS.below{a:Option Addr}{names:List Bs}(h:oS w a names)(hb:Below w.heap.size w w'):oS w' a names :=
 ⟨fun h0=>let ⟨g,e,p⟩:=h.blk h0;⟨g,e,fun i hi=>by rw[hb.cell (p:=⟨g,i,none⟩) (zP (p i hi))];exact p i hi⟩,h.few⟩
theorem zBZ(w:World)(a:Option Addr)(cp:Nat)(ls:List zF)(us:List zG)(r:Bool)(na:Option Addr)(nc:Nat)(names:List Bs)(h:bG w a us)(hA:yP ls us)(hn:oS w na names) :
 Calls Tryz.prog 193 #[.slice a us.length cp,.bool r,.slice na names.length nc] w fun e w'=>∃v gs,e=.returned v/\Yg w.heap.size w' v gs (jE us r names) names.length names.length/\Below w.heap.size w w':=by
 obtain⟨i0,hi0,hz0,hz1,hz2⟩:=dp zDL;obtain⟨i1,hj0,hj1,hj2,hj3⟩:=dp Zs;have HR:=zA h;have HA:=zA hA;have HN:=zA hn;have zII:=hn.few;have hlen64:i1.bytes*names.length<=281474976710656:=by rw[hj3];omega
 have hlen63:names.length<=9223372036854775807:=by omega
 obtain⟨B,hB⟩:∃B,B=w.heap.size:=⟨_,rfl⟩;have HB0:=zA hB;have HB1:=zA hlen64;have HB2:=zA hlen63;clear h hA hn hB hlen64 hlen63
 go_enter Tryz.func193,Tryz.ntmps193
 go_wp2_with fail
 go_loopw [7,8] (fun ov iv wr=>∃(i:Nat) (gs:List Nat),i<=names.length/\iv=.int .i64 i/\Hid (Yg B wr ov gs (jE us r names) names.length i)/\Hid (Below B w wr)) (fun _ iv _=>names.length-(intOf iv).toNat)
 case atStart=>exact⟨0,[],tr _,rfl,zA ⟨rfl,lk _ _ _ _,fun j hj=>absurd hj (by omega)⟩,zA (tj _ _)⟩
 case round =>
  obtain⟨i,gs,hi,rfl,HM,HB⟩:=hrel;by_cases zI6:i<names.length
  ·have zIJ:B<=wr.heap.size:=by have:=HB.out.size;have h2:=HB0.out;omega
   obtain⟨wo,hwo⟩:∃wo,wo=wr:=⟨_,rfl⟩;subst hwo;have HZ:=zA (show (Value.bool false).cells = #[Value.bool false] from rfl)
   go_wp2_with (with_reducible refine wpList_make_row _ ?hg (.tmp 18) (.tmp 18) 180 ?zJ3 4 i1 (.bool false) Tryz.underlying180 hj0 hj1 hj2 HZ.out .i64 .i64 names.length ?hl ?hc HB1.out HB2.out ?_
                case zJ3=>rfl
                case hg=>rfl
                case hl=>rfl
                case hc=>rfl)
   have hM0:uU (wo.alloc (.cells (madeCells #[Value.bool false] names.length) 4)) wo.heap.size (cI (jE us r names) i names.length 0):=by
    unfold uU;rw[BG,<-oF];exact zM _ _
   have hO0:Below wo.heap.size wo (wo.alloc (.cells (madeCells #[Value.bool false] names.length) 4)):=ge (t9 _) _;have hS0:wo.heap.size<(wo.alloc (.cells (madeCells #[Value.bool false] names.length) 4)).heap.size:=yL _ _;generalize wo.alloc (.cells (madeCells #[Value.bool false] names.length) 4)=wq at *;have HM0:=zA hM0;have HO0:=zA hO0;have HS0:=zA hS0;clear hM0 hO0 hS0
   go_loopw [10] (fun kv wr=>∃(k:Nat),k<=names.length/\kv=.int .i64 k/\Hid (uU wr wo.heap.size (cI (jE us r names) i names.length k))/\Hid (vP wo.heap.size wq wr)) (fun kv _=>names.length-(intOf kv).toNat)
   case atStart=>exact⟨0,tr _,rfl,HM0,zA (vP.refl _ _)⟩
   case round =>
    obtain⟨k,hk,rfl,HMk,HOk⟩:=hrel;clear HM0;by_cases zJ5:k<names.length
    ·have hbw:Below w.heap.size w wr:=by
      have h1:=HB.out;rw[HB0.out]at h1;have h2:w.heap.size<=wo.heap.size:=h1.size;exact h1.trans ((HO0.out.mono h2).trans (HOk.out.below (tx h2 (p8 HS0.out)) h2))
     obtain⟨ng,rfl,hcs⟩:=(HN.out.below hbw).blk (by omega);have hci:=hcs i zI6;have hck:=hcs k zJ5;have zJ0:=zA (fun w' (hb:Below wr.heap.size wr w') x y=>zFN w' a cp ls us r x y ((HR.out.below hbw).below hb) HA.out);have zIR:=HMk.out.cell (k:=k) (by rw[ZE];exact zJ5);have hfree:=HMk.out.free k;have ik:(k:Int)<(names.length:Int):=by omega
     have ii:(i:Int)<(names.length:Int):=by omega
     have HV:Hid (jE us r names i k=rL us r (names.getD i []) (names.getD k [])):=rfl;clear hbw hcs;generalize names.getD i []=x at *;generalize names.getD k []=y at *;have HSt2:=zA (fun w' (hb:Below wr.heap.size wr w')=>zJ0.out w' hb x y);clear zJ0;generalize rL us r x y=z at *;go_wp2_with fail
     go_region_with (go_at_call 143
                     refine(HSt2.out _ (me (tj _ _))).mono ?_;rintro e w1 ⟨rfl,hw⟩;obtain rfl:=hw.symm)
     all_goals
      have HM2:Hid (uU (wr.drew.setCell ⟨wo.heap.size,k,none⟩ (.bool z)) wo.heap.size (cI (jE us r names) i names.length (k+1))):=by
       unfold Hid;rw[<-FP,HV.out];exact uU.set (w:=wr.drew) HMk.out k z
      have HO2:Hid (vP wo.heap.size wq (wr.drew.setCell ⟨wo.heap.size,k,none⟩ (.bool z))):=HOk.out.drew.trans (vP.set _ _ _ _);go_wp2_with fail
      go_roundw
      case rel=>exact⟨k+1,by omega,by go_num,HM2,HO2⟩
      case measure=>simp[intOf];omega
    ·obtain rfl:k=names.length:=by omega
     have hbo:Below wo.heap.size wo wr:=HO0.out.trans (HOk.out.below (p8 HS0.out) (t9 _));have HMr:=zA (show Yg B wr _ gs (jE us r names) names.length i from ⟨HM.out.len,Jq HM.out.own hbo,fun j hj=>(HM.out.rows j hj).below hbo⟩);have HBr:Hid (Below B w wr):=HB.out.trans (hbo.mono zIJ);have zIE:B<=wr.heap.size:=tx zIJ hbo.size;have hgl:gs.length<=names.length:=by rw[HM.out.len];omega
     clear hbo
     go_wp2_with (at_builtin;refine wpList_append_own _ rfl _ _ 253 rfl B 180 i0 _ 1 24 Tryz.underlying253 hi0 hz0 hz1 hz2 rfl (by decide) _ _ _ rfl (HMr.out.own.alloc _) ⟨wr.heap.size,0,none⟩ 1 1 [uq names.length wo.heap.size] rfl rfl ?c1 ?c2 ?c3 ?c4 ?c5 ?_)
     case c1=>exact zZ _ _ _ _ rfl
     case c2=>intro u hu;simp at hu;subst hu;rfl
     case c3=>unfold maxLen;omega
     case c4=>omega
     case c5=>simp;omega
     intro v' w2 zI9 zI7 _;have HB2:Hid (Below B w w2):=(HBr.out.alloc zIE _).grown zI7 (by simp;omega) (zN HMr.out.own)
     have HM2:Hid (Yg B w2 v' (gs++[wo.heap.size]) (jE us r names) names.length (i+1)):=by
      refine Yg.snoc (w:=wr.alloc _) ⟨HMr.out.len,HMr.out.own.alloc _,fun j hj=>?_⟩ ?_ zI7 zI9
      ·exact(HMr.out.rows j hj).below (ge (t9 _) _)
      ·exact HMk.out.below (ge (t9 _) _)
     clear zI7 zI9;go_wp2_with fail
     go_roundw
     case rel=>exact⟨i+1,gs++[wo.heap.size],by omega,by go_num,HM2,HB2⟩
     case measure=>simp[intOf];omega
  ·have HE:Hid (i=names.length):=by unfold Hid;omega
   go_wp2_with fail
   go_ret
   refine⟨_,gs,rfl,?_,by rw[<-HB0.out];exact HB.out⟩;have:=HM.out;rw[HE.out,HB0.out]at this;exact this
theorem K2(fr:Bool)(x N y:Nat)(s:List Bool)(h:y<N):lY m fr x (N-y) y s=lY m fr x (N-(y+1)) (y+1) (if fr&&m x y then s.set y true else s):=by
 rw[show N-y=(N-(y+1))+1 by omega,lY]
theorem zDB(x:Nat)(s:List Bool)(h:x<N):lX m i N (N-x) x s=lX m i N (N-(x+1)) (x+1) (lY m (zGF i x s) x N 0 s):=by
 rw[show N-x=(N-(x+1))+1 by omega,lX]
theorem zDD(n:Nat)(s:List Bool)(h:n<N+1):lN m i N (N+1-n) s=lN m i N (N+1-(n+1)) (lX m i N N 0 s):=by
 rw[show N+1-n=(N+1-(n+1))+1 by omega,lN]
theorem Yg.row{N:Nat}{m:Nat->Nat->Bool}(h:Yg B w v gs m N N){x:Nat}(hx:x<N):∃gm cm,v=.slice (some ⟨gm,0,none⟩) N cm/\w.cell? ⟨gm,x,none⟩=some (.slice (some ⟨gs.getD x 0,0,none⟩) N N)/\gm<w.heap.size/\uU w (gs.getD x 0) (cI m x N N):=by
 rcases h.own.2 with ⟨_,h2⟩|⟨g,cap,yW,h1,_,h3,_,_,_,h7⟩
 ·have:=h.len;omega
 ·refine⟨g,cap,by rw[h1,h.len],?_,?_,h.rows x hx⟩
  ·refine xB h3 h7 ?_
   rw[List.getElem?_map];simp[List.getD,uq,show x<gs.length by rw[h.len];exact hx]
  ·rcases po g w.heap.size with h9|h9
   ·exact h9
   ·rw[pj h9]at h3;cases h3
theorem Yg.below{N k:Nat}{m:Nat->Nat->Bool}(h:Yg B w v gs m N k)(hb:Below w.heap.size w w'):Yg B w' v gs m N k :=
 ⟨h.len,Jq h.own hb,fun j hj=>(h.rows j hj).below hb⟩
theorem KX(w:World)(a:Option Addr)(cp:Nat)(ls:List zF)(us:List zG)(r:Bool)(na:Option Addr)(nc:Nat)(names:List Bs)(i k:Nat)(hk:k<names.length)(h:bG w a us)(hA:yP ls us)(hn:oS w na names) :
 Calls Tryz.prog 134 #[.slice a us.length cp,.bool r,.slice na names.length nc,.int .i64 i,.int .i64 k] w fun e w'=>e=.returned (.bool (lV (jE us r names) names.length i k))/\Below w.heap.size w w':=by
 obtain⟨i1,hj0,hj1,hj2,hj3⟩:=dp Zs;have zII:=hn.few;have HS:=zA (zBZ w a cp ls us r na nc names h hA hn);have HB1:=zA (show i1.bytes*names.length<=281474976710656 by rw[hj3];omega);have HB2:=zA (show names.length<=9223372036854775807 by omega);have HZ:=zA (show (Value.bool false).cells = #[Value.bool false] from rfl);have HL:Hid (lV (jE us r names) names.length i k=(lN (jE us r names) i names.length (names.length+1) (List.replicate names.length false)).getD k false):=rfl;clear h hA hn;generalize lV (jE us r names) names.length i k=ans at *;generalize jE us r names=m at *;generalize hN:names.length=N at *;clear hN
 go_enter Tryz.func134,Tryz.ntmps134
 go_wp2_with fail
 refine HS.out.mono ?_;rintro e w1 ⟨v,gs,rfl,hM,hb1⟩;have HM:=zA hM;have HBl:=zA hb1;obtain⟨gm,cm,hv⟩:∃gm cm,v=.slice (some ⟨gm,0,none⟩) N cm:=by obtain⟨gm,cm,h1,_⟩:=hM.row (show k<N from hk);exact⟨gm,cm,h1⟩
 subst hv;clear hM hb1 HS
 go_wp2_with (with_reducible refine wpList_make_row _ ?hg (.tmp 22) (.tmp 22) 180 ?zJ3 4 i1 (.bool false) Tryz.underlying180 hj0 hj1 hj2 HZ.out .i64 .i64 N ?hl ?hc HB1.out HB2.out ?_
              case zJ3=>rfl
              case hg=>rfl
              case hl=>rfl
              case hc=>rfl)
 have hM0:uU (w1.alloc (.cells (madeCells #[Value.bool false] N) 4)) w1.heap.size (List.replicate N false):=by
  unfold uU;rw[<-oF];exact zM _ _
 have hO0:vP w1.heap.size w1 (w1.alloc (.cells (madeCells #[Value.bool false] N) 4)):=(vP.refl _ _).alloc _;generalize w1.alloc (.cells (madeCells #[Value.bool false] N) 4)=wq at *;have HM0:=zA hM0;have HO0:=zA hO0;clear hM0 hO0 HB1 HB2 HZ;generalize hgb:w1.heap.size=gb at *;have HGB:=zA hgb;clear hgb
 go_loopw [13] (fun nv wr=>∃(n:Nat) (s:List Bool),n<=N+1/\s.length=N/\nv=.int .i64 n/\Hid (uU wr gb s)/\Hid (vP gb w1 wr)/\Hid (lN m i N (N+1-n) s=lN m i N (N+1) (List.replicate N false))) (fun nv _=>N+1-(intOf nv).toNat)
 case atStart=>exact⟨0,_,tr _,by simp,rfl,HM0,HO0,zA rfl⟩
 case round =>
  obtain⟨n,s,hn,hs,rfl,HMn,HOn,HEn⟩:=hrel;clear HM0 HO0;by_cases hltn:n<N+1
  ·have hE:=HEn.out
   rw[zDD m i N n s hltn]at hE;have HE1:=zA hE;clear HEn hE;obtain⟨wn,hwn⟩:∃wn,wn=wr:=⟨_,rfl⟩;subst hwn;have inN:(n:Int)<=(N:Int):=by omega
   go_wp2_with fail
   go_loopw [14] (fun xv wr=>∃(x:Nat) (s':List Bool),x<=N/\s'.length=N/\xv=.int .i64 x/\Hid (uU wr gb s')/\Hid (vP gb w1 wr)/\Hid (lX m i N (N-x) x s'=lX m i N N 0 s)) (fun xv _=>N-(intOf xv).toNat)
   case atStart=>exact⟨0,s,tr _,hs,rfl,HMn,HOn,zA rfl⟩
   case round =>
    obtain⟨x,s2,hx,hs2,rfl,HMx,HOx,HEx⟩:=hrel;clear HMn HOn;by_cases hltx:x<N
    ·have hE:=HEx.out
     rw[zDB m i N x s2 hltx]at hE;have HE2:=zA hE;clear HEx hE;have hcx:=HMx.out.cell (k:=x) (by omega);have HFr:Hid (zGF i x s2=(decide (x=i) || s2.getD x false)):=rfl;obtain⟨wx,hwx⟩:∃wx,wx=wr:=⟨_,rfl⟩;subst hwx;have ix:(x:Int)<(N:Int):=by omega
     generalize hzz:s2.getD x false=zz at *;clear hzz;generalize hfr:zGF i x s2=fr at *;have HFQ:=zA hfr;clear hfr;have HFv:Hid (fr=(decide (x=i) || zz)):=HFr.out;clear HFr HFQ;by_cases hxi:x=i
     ·have b1:((x:Int)==(i:Int))=true:=by simp;omega
      obtain rfl:fr=true:=by rw[HFv.out,tm hxi];rfl
      clear HFv hxi;go_wp2_with fail
      go_loopw [16] (fun yv wr=>∃(y:Nat) (s3:List Bool),y<=N/\s3.length=N/\yv=.int .i64 y/\Hid (uU wr gb s3)/\Hid (vP gb w1 wr)/\Hid (lY m true x (N-y) y s3=lY m true x N 0 s2)) (fun yv _=>N-(intOf yv).toNat)
      case atStart=>exact⟨0,s2,tr _,hs2,rfl,HMx,HOx,zA rfl⟩
      case round =>
       obtain⟨y,s3,hy,hs3,rfl,HMy,HOy,HEy⟩:=hrel;clear HMx HOx hcx;by_cases hlty:y<N
       ·have hE:=HEy.out
        rw[K2 m true x N y s3 hlty]at hE;have HE3:=zA hE;clear HEy hE;have iy:(y:Int)<(N:Int):=by omega
        have hbw:Below w1.heap.size w1 wr:=HOy.out.below (t9 _) (by rw[HGB.out];exact t9 _);obtain⟨gm',cm',hv',zIT,hgm,hBr⟩:=(HM.out.below hbw).row hltx;obtain⟨rfl,rfl⟩:gm=gm'/\cm=cm':=by simpa using hv'
        have hmy:=hBr.cell (k:=y) (by rw[ZE];exact hlty);rw[Ji m x N y hlty]at hmy;have hcy:=HMy.out.cell (k:=y) (by omega);have hfz:=HMy.out.free y;clear hbw hv' hBr;generalize gs.getD x 0=gx at *;generalize m x y=z at *;cases z
        ·have HE4:Hid (lY m true x (N-(y+1)) (y+1) s3=lY m true x N 0 s2):=HE3.out
         clear HE3;go_wp2_with fail
         go_roundw
         case rel=>exact⟨y+1,s3,by omega,hs3,by go_num,HMy,HOy,HE4⟩
         case measure=>simp[intOf];omega
        ·have HE4:Hid (lY m true x (N-(y+1)) (y+1) (s3.set y true)=lY m true x N 0 s2):=HE3.out
         clear HE3;go_wp2_with fail
         go_roundw
         case rel=>exact⟨y+1,s3.set y true,by omega,by rw[List.length_set];exact hs3,by go_num,zA (HMy.out.set y true),zA (HOy.out.trans (vP.set _ _ _ _)),HE4⟩
         case measure=>simp[intOf];omega
       ·have HE4:Hid (lX m i N (N-(x+1)) (x+1) s3=lX m i N N 0 s):=by
         have h1:=HEy.out;rw[show N-y=0 by omega]at h1;have h2:=HE2.out;rw[<-h1]at h2;exact h2
        clear HEy HE2;go_wp2_with fail
        go_roundw
        case rel=>exact⟨x+1,s3,by omega,hs3,by go_num,HMy,HOy,HE4⟩
        case measure=>simp[intOf];omega
     ·have b1:((x:Int)==(i:Int))=false:=by simp;omega
      cases zz
      ·obtain rfl:fr=false:=by rw[HFv.out,th hxi];rfl
       clear HFv hxi;go_wp2_with fail
       go_loopw [16] (fun yv wr=>∃(y:Nat) (s3:List Bool),y<=N/\s3.length=N/\yv=.int .i64 y/\Hid (uU wr gb s3)/\Hid (vP gb w1 wr)/\Hid (lY m false x (N-y) y s3=lY m false x N 0 s2)) (fun yv _=>N-(intOf yv).toNat)
       case atStart=>exact⟨0,s2,tr _,hs2,rfl,HMx,HOx,zA rfl⟩
       case round =>
        obtain⟨y,s3,hy,hs3,rfl,HMy,HOy,HEy⟩:=hrel;clear HMx HOx hcx;by_cases hlty:y<N
        ·have hE:=HEy.out
         rw[K2 m false x N y s3 hlty]at hE;have HE3:=zA hE;clear HEy hE;have iy:(y:Int)<(N:Int):=by omega
         have HE4:Hid (lY m false x (N-(y+1)) (y+1) s3=lY m false x N 0 s2):=HE3.out;clear HE3;go_wp2_with fail
         go_roundw
         case rel=>exact⟨y+1,s3,by omega,hs3,by go_num,HMy,HOy,HE4⟩
         case measure=>simp[intOf];omega
        ·have HE4:Hid (lX m i N (N-(x+1)) (x+1) s3=lX m i N N 0 s):=by
          have h1:=HEy.out;rw[show N-y=0 by omega]at h1;have h2:=HE2.out;rw[<-h1]at h2;exact h2
         clear HEy HE2;go_wp2_with fail
         go_roundw
         case rel=>exact⟨x+1,s3,by omega,hs3,by go_num,HMy,HOy,HE4⟩
         case measure=>simp[intOf];omega
      ·obtain rfl:fr=true:=by rw[HFv.out,dy]
       clear HFv hxi;go_wp2_with fail
       go_loopw [16] (fun yv wr=>∃(y:Nat) (s3:List Bool),y<=N/\s3.length=N/\yv=.int .i64 y/\Hid (uU wr gb s3)/\Hid (vP gb w1 wr)/\Hid (lY m true x (N-y) y s3=lY m true x N 0 s2)) (fun yv _=>N-(intOf yv).toNat)
       case atStart=>exact⟨0,s2,tr _,hs2,rfl,HMx,HOx,zA rfl⟩
       case round =>
        obtain⟨y,s3,hy,hs3,rfl,HMy,HOy,HEy⟩:=hrel;clear HMx HOx hcx;by_cases hlty:y<N
        ·have hE:=HEy.out
         rw[K2 m true x N y s3 hlty]at hE;have HE3:=zA hE;clear HEy hE;have iy:(y:Int)<(N:Int):=by omega
         have hbw:Below w1.heap.size w1 wr:=HOy.out.below (t9 _) (by rw[HGB.out];exact t9 _);obtain⟨gm',cm',hv',zIT,hgm,hBr⟩:=(HM.out.below hbw).row hltx;obtain⟨rfl,rfl⟩:gm=gm'/\cm=cm':=by simpa using hv'
         have hmy:=hBr.cell (k:=y) (by rw[ZE];exact hlty);rw[Ji m x N y hlty]at hmy;have hcy:=HMy.out.cell (k:=y) (by omega);have hfz:=HMy.out.free y;clear hbw hv' hBr;generalize gs.getD x 0=gx at *;generalize m x y=z at *;cases z
         ·have HE4:Hid (lY m true x (N-(y+1)) (y+1) s3=lY m true x N 0 s2):=HE3.out
          clear HE3;go_wp2_with fail
          go_roundw
          case rel=>exact⟨y+1,s3,by omega,hs3,by go_num,HMy,HOy,HE4⟩
          case measure=>simp[intOf];omega
         ·have HE4:Hid (lY m true x (N-(y+1)) (y+1) (s3.set y true)=lY m true x N 0 s2):=HE3.out
          clear HE3;go_wp2_with fail
          go_roundw
          case rel=>exact⟨y+1,s3.set y true,by omega,by rw[List.length_set];exact hs3,by go_num,zA (HMy.out.set y true),zA (HOy.out.trans (vP.set _ _ _ _)),HE4⟩
          case measure=>simp[intOf];omega
        ·have HE4:Hid (lX m i N (N-(x+1)) (x+1) s3=lX m i N N 0 s):=by
          have h1:=HEy.out;rw[show N-y=0 by omega]at h1;have h2:=HE2.out;rw[<-h1]at h2;exact h2
         clear HEy HE2;go_wp2_with fail
         go_roundw
         case rel=>exact⟨x+1,s3,by omega,hs3,by go_num,HMy,HOy,HE4⟩
         case measure=>simp[intOf];omega
    ·have HE2:Hid (lN m i N (N+1-(n+1)) s2=lN m i N (N+1) (List.replicate N false)):=by
      have h1:=HEx.out;rw[show N-x=0 by omega]at h1;have h2:=HE1.out;rw[<-h1]at h2;exact h2
     clear HEx HE1;go_wp2_with fail
     go_roundw
     case rel=>exact⟨n+1,s2,by omega,hs2,by go_num,HMx,HOx,HE2⟩
     case measure=>simp[intOf];omega
  ·have HE1:Hid (ans=s.getD k false):=by
    have h1:=HEn.out;rw[show N+1-n=0 by omega]at h1;unfold Hid;rw[HL.out,<-h1];rfl
   have hck:=HMn.out.cell (k:=k) (by omega);have ik:(k:Int)<(N:Int):=by omega
   have inN:¬(n:Int)<=(N:Int):=by omega
   have HBf:Hid (Below w.heap.size w wr):=HBl.out.trans (HOn.out.below HBl.out.size (by rw[<-HGB.out];exact HBl.out.size));clear HEn HL;generalize s.getD k false=zk at *;go_wp2_with fail
   go_ret
   exact⟨zE HE1.out.symm,HBf.out⟩
theorem sT(p:Nat->Bool)(N i:Nat)(h:i<N):((List.range N).drop i).any p=(p i || ((List.range N).drop (i+1)).any p):=by
 rw[pb (by simpa using h),mt,List.getElem_range]
theorem Vx(w:World)(a:Option Addr)(cp:Nat)(ls:List zF)(us:List zG)(r:Bool)(h:bG w a us)(hA:yP ls us) :
 Calls Tryz.prog 77 #[.slice a us.length cp,.bool r] w fun e w'=>e=.returned (.bool (fB us r))/\Below w.heap.size w w':=by
 have zII:=h.few;have HR:=zA h;have HA:=zA hA;have HH:=zA (Fp w a cp ls us h hA);have HLb:=zA (fun w' (hb:Below w.heap.size w w')=>UU w' a cp ls us (h.below hb) hA);clear h hA;cases r
 ·have HRg:Hid (fB us false=wK (jE us false (qM us)) (qM us).length):=rfl
  generalize fB us false=ans at *
  go_enter Tryz.func77,Tryz.ntmps77
  go_wp2_with fail
  refine HH.out.mono ?_;rintro e w1 ⟨v,rfl,zI8,zIC,hb1⟩;obtain⟨na,nc,rfl,hstr⟩:=oB zI8 (by omega);have HB1:=zA hb1;have zJ0:=zA hstr;clear zI8 hb1 hstr HH HLb;generalize qM us=names at *;go_wp2_with fail
  go_loopw [6] (fun iv wr=>∃(i:Nat),i<=names.length/\iv=.int .i64 i/\Hid (Below w1.heap.size w1 wr)/\Hid (((List.range names.length).drop i).any (fun i=>lV (jE us false names) names.length i i)=ans)) (fun iv _=>names.length-(intOf iv).toNat)
  case atStart=>exact⟨0,tr _,rfl,zA (tj _ _),zA HRg.out.symm⟩
  case round =>
   obtain⟨i,hi,rfl,HB,HE⟩:=hrel;clear HRg;have hbw:Below w.heap.size w wr:=HB1.out.trans (HB.out.mono HB1.out.size);have zJ2:=zA hbw;by_cases zI6:i<names.length
   ·have HLd:=zA (KX wr a cp ls us false na nc names i i zI6 (HR.out.below hbw) HA.out (zJ0.out.below HB.out))
    have hE:=HE.out;rw[sT _ _ i zI6]at hE;have HE2:=zA hE;clear HE hE hbw;generalize lV (jE us false names) names.length i i=z at *;cases z
    ·have HE3:Hid (((List.range names.length).drop (i+1)).any (fun i=>lV (jE us false names) names.length i i)=ans):=by have:=HE2.out;rw[pm]at this;exact this
     clear HE2;go_wp2_with fail
     refine HLd.out.mono ?_;rintro e w2 ⟨rfl,hb2⟩;have HB2:Hid (Below w1.heap.size w1 w2):=HB.out.trans (hb2.mono HB.out.size);clear hb2;go_wp2_with fail
     go_roundw
     case rel=>exact⟨i+1,by omega,by go_num,HB2,HE3⟩
     case measure=>simp[intOf];omega
    ·have HE3:Hid (ans=true):=by have:=HE2.out;rw[dq]at this;exact this.symm
     clear HE2;go_wp2_with fail
     refine HLd.out.mono ?_;rintro e w2 ⟨rfl,hb2⟩;have HB2:Hid (Below w.heap.size w w2):=zJ2.out.trans (hb2.mono zJ2.out.size);clear hb2;go_wp2_with fail
     go_ret
     exact⟨zE HE3.out.symm,HB2.out⟩
   ·have HE3:Hid (ans=false):=by have:=HE.out;rw[tu (by simp;omega)]at this;exact this.symm
    clear HE hbw;go_wp2_with fail
    go_ret
    exact⟨zE HE3.out.symm,zJ2.out⟩
 ·have HRg:Hid (fB us true=wK (jE us true (pT us)) (pT us).length):=rfl
  generalize fB us true=ans at *
  go_enter Tryz.func77,Tryz.ntmps77
  go_wp2_with fail
  refine HH.out.mono ?_;rintro e w0 ⟨v0,rfl,hown0,hlen0,hb0⟩;obtain⟨na0,nc0,rfl,_⟩:=oB hown0 (by omega);have HB0:=zA hb0;clear hown0 hb0;go_wp2_with fail
  refine(HLb.out _ HB0.out).mono ?_;rintro e w1 ⟨v,rfl,zI8,zIC,hb1⟩;obtain⟨na,nc,rfl,hstr⟩:=oB zI8 (by omega);have HB1:Hid (Below w.heap.size w w1):=HB0.out.trans (hb1.mono HB0.out.size);have zJ0:=zA hstr;clear zI8 hb1 hstr HH HLb HB0;generalize pT us=names at *;go_wp2_with fail
  go_loopw [6] (fun iv wr=>∃(i:Nat),i<=names.length/\iv=.int .i64 i/\Hid (Below w1.heap.size w1 wr)/\Hid (((List.range names.length).drop i).any (fun i=>lV (jE us true names) names.length i i)=ans)) (fun iv _=>names.length-(intOf iv).toNat)
  case atStart=>exact⟨0,tr _,rfl,zA (tj _ _),zA HRg.out.symm⟩
  case round =>
   obtain⟨i,hi,rfl,HB,HE⟩:=hrel;clear HRg;have hbw:Below w.heap.size w wr:=HB1.out.trans (HB.out.mono HB1.out.size);have zJ2:=zA hbw;by_cases zI6:i<names.length
   ·have HLd:=zA (KX wr a cp ls us true na nc names i i zI6 (HR.out.below hbw) HA.out (zJ0.out.below HB.out))
    have hE:=HE.out;rw[sT _ _ i zI6]at hE;have HE2:=zA hE;clear HE hE hbw;generalize lV (jE us true names) names.length i i=z at *;cases z
    ·have HE3:Hid (((List.range names.length).drop (i+1)).any (fun i=>lV (jE us true names) names.length i i)=ans):=by have:=HE2.out;rw[pm]at this;exact this
     clear HE2;go_wp2_with fail
     refine HLd.out.mono ?_;rintro e w2 ⟨rfl,hb2⟩;have HB2:Hid (Below w1.heap.size w1 w2):=HB.out.trans (hb2.mono HB.out.size);clear hb2;go_wp2_with fail
     go_roundw
     case rel=>exact⟨i+1,by omega,by go_num,HB2,HE3⟩
     case measure=>simp[intOf];omega
    ·have HE3:Hid (ans=true):=by have:=HE2.out;rw[dq]at this;exact this.symm
     clear HE2;go_wp2_with fail
     refine HLd.out.mono ?_;rintro e w2 ⟨rfl,hb2⟩;have HB2:Hid (Below w.heap.size w w2):=zJ2.out.trans (hb2.mono zJ2.out.size);clear hb2;go_wp2_with fail
     go_ret
     exact⟨zE HE3.out.symm,HB2.out⟩
   ·have HE3:Hid (ans=false):=by have:=HE.out;rw[tu (by simp;omega)]at this;exact this.symm
    clear HE hbw;go_wp2_with fail
    go_ret
    exact⟨zE HE3.out.symm,zJ2.out⟩
end Go.Proofs.YtnbpdffdnphbeaaGreatDoor
