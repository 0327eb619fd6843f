import Derived.Test.YtnbpdffdnphbeaaGreatDoorRfBase
import Derived.Test.YtnbpdffdnphbeaaGreatDoorPRing
import Derived.Deep.OwnRows
set_option maxHeartbeats 4000000
namespace Go.Proofs.YtnbpdffdnphbeaaGreatDoor
open Go.RowKit
theorem Vq(us:List zI)(i:Nat)(acc:List Bs)(h:i<us.length):cZ us (us.length-i) i acc=cZ us (us.length-(i+1)) (i+1) (if cA (uA us i) 0=zW/\yF us zW 3 (tA (uA us i) 3)=(i:Int) then acc++[tA (uA us i) 3] else acc):=by
 rw[show us.length-i=(us.length-(i+1))+1 by omega,cZ]
theorem B6(us:List zI)(i:Nat)(acc:List Bs)(h:i<us.length):sM us (us.length-i) i acc=sM us (us.length-(i+1)) (i+1) (if cA (uA us i) 0=zW then acc++[tA (uA us i) 1] else acc):=by
 rw[show us.length-i=(us.length-(i+1))+1 by omega,sM]
theorem Dl(w:World)(a:Option Addr)(c:Nat)(ls:List zH)(us:List zI)(h:lV w a us)(hA:yX ls us) :
 Calls Tryz.prog 64 #[.slice a us.length c] w fun e w'=>∃v,e=.returned v/\w'.ownsRow w.heap.size 9 1 v (tY us).length (pY (tY us))/\(tY us).length<=us.length/\Below w.heap.size w w':=by
 obtain⟨i0,hi0,hz0,hz1,hz2⟩:=info_parts Zd;have HR:=zA h;have zGH:=h.few;have HA:=zA hA;obtain⟨B,hB⟩:∃B,B=w.heap.size:=⟨_,rfl⟩;have HB0:=zA hB;clear h hA hB
 go_enter Tryz.func64,Tryz.ntmps64
 go_wp2_with fail
 go_loopw [3,4] (fun ov iv wr=>∃(i:Nat) (acc:List Bs),i<=us.length/\acc.length<=i/\iv=.int .i64 i/\Hid (wr.ownsRow B 9 1 ov acc.length (pY acc))/\Hid (Below B w wr)/\Hid (cZ us (us.length-i) i acc=tY us)) (fun _ iv _=>us.length-(intOf iv).toNat)
 case atStart=>exact⟨0,[],Nat.zero_le _,Nat.le_refl _,rfl,zA (World.ownsRow_nil _ _ _ _),zA (Below.refl _ _),zA rfl⟩
 case round =>
  obtain⟨i,acc,hi,hacc,rfl,HO,HB,HE⟩:=hrel;by_cases zFZ:i<us.length
  ·have hRr:=HR.out.below (by have:=HB.out;rwa [HB0.out]at this)
   have HF:=zA (fun nm=>V0 wr a c ls us nm hRr HA.out);obtain⟨gl,g,o,cu,rfl,zGI,zG4,hlc,hcm,hsm⟩:=hRr.at zFZ;have hx:=HA.out.get i zFZ;have h2:=hx.two;have hc0:=(zG4.tok (show 0<(uA us i).length by omega)).2;rw[Nat.zero_mul,Nat.add_zero]at hc0;have il0:(0:Int)<((uA us i).length:Int):=by omega
   have hE:=HE.out;rw[Vq us i acc zFZ]at hE;have HE2:=zA hE;have zG9:B<=wr.heap.size:=by have:=HB.out.size;have h2:=HB0.out;omega
   have HLn:=zA (fun hk=>hx.len hk);have HSg:=zA zG4;clear HE hE hRr hx zG4;by_cases k1:cA (uA us i) 0=zW
   ·have h6:=HLn.out k1
    have hc3:=(HSg.out.tok (show 3<(uA us i).length by omega)).1;rw[show 3*3=9 from rfl]at hc3;rw[k1]at hc0 HE2;simp only[zW]at hc0;have il3:(3:Int)<((uA us i).length:Int):=by omega
    have HF2:Hid (∀nm:Bs,Calls Tryz.prog 110 #[.slice (some ⟨gl,0,none⟩) us.length c,.string ⟨#[114,117,108,101]⟩,.int .i64 3,.string ⟨nm.toArray⟩] wr fun e w'=>e=.returned (.int .i64 (yF us zW 3 nm))/\w'=wr):=HF;clear HF k1 HLn HSg;generalize tA (uA us i) 3=cc at *;have HF3:=zA (HF2.out cc);clear HF2;generalize yF us zW 3 cc=f at *;by_cases k2:f=(i:Int)
    ·have HE3:Hid (cZ us (us.length-(i+1)) (i+1) (acc++[cc])=tY us):=by have:=HE2.out;rw[if_pos ⟨rfl,k2⟩]at this;exact this
     subst k2;clear HE2;go_wp2_with fail
     refine HF3.out.mono ?_;rintro e w1 ⟨rfl,hw⟩;obtain rfl:=hw.symm
     go_wp2_with (at_builtin;refine wpList_append_own _ rfl _ _ 37 rfl B 9 i0 _ 1 16 Tryz.underlying37 hi0 hz0 hz1 hz2 rfl (by decide) _ _ _ rfl (HO.out.alloc _) ⟨wr.heap.size,0,none⟩ 1 1 [.string ⟨cc.toArray⟩] rfl rfl ?c1 ?c2 ?c3 ?c4 ?c5 ?_)
     case c1=>exact xI _ _ _ _ rfl
     case c2=>intro u hu;simp at hu;subst hu;rfl
     case c3=>unfold maxLen;omega
     case c4=>omega
     case c5=>simp;omega
     intro v' w2 zG2 zG0 _;have HB2:Hid (Below B w w2):=(HB.out.alloc zG9 _).grown zG0 (by simp;omega) (zZ HO.out);have HO2:Hid (w2.ownsRow B 9 1 v' (acc++[cc]).length (pY (acc++[cc]))):=by unfold Hid;rw[dO];simpa using zG2
     clear zG0 zG2;go_wp2_with fail
     go_roundw
     case rel=>exact⟨i+1,acc++[cc],by omega,by simp;omega,by go_num,HO2,HB2,HE3⟩
     case measure=>simp[intOf];omega
    ·have HE3:Hid (cZ us (us.length-(i+1)) (i+1) acc=tY us):=by have:=HE2.out;rw[if_neg (fun h=>k2 h.2)]at this;exact this
     have b2:(f==(i:Int))=false:=by simpa using k2
     clear HE2 k2;go_wp2_with fail
     refine HF3.out.mono ?_;rintro e w1 ⟨rfl,hw⟩;obtain rfl:=hw.symm;go_wp2_with fail
     go_roundw
     case rel=>exact⟨i+1,acc,by omega,by omega,by go_num,HO,HB,HE3⟩
     case measure=>simp[intOf];omega
   ·have HE3:Hid (cZ us (us.length-(i+1)) (i+1) acc=tY us):=by have:=HE2.out;rw[if_neg (fun h=>k1 h.1)]at this;exact this
    have b1:(cA (uA us i) 0==[114,117,108,101])=false:=by simpa[zW] using k1
    clear HE2 k1 HF HLn HSg;generalize cA (uA us i) 0=cl at *;go_wp2_with fail
    go_roundw
    case rel=>exact⟨i+1,acc,by omega,by omega,by go_num,HO,HB,HE3⟩
    case measure=>simp[intOf];omega
  ·have HE3:Hid (acc=tY us):=by have:=HE.out;rw[show us.length-i=0 by omega]at this;exact this
   clear HE;go_wp2_with fail
   go_ret
   exact⟨_,rfl,by rw[<-HE3.out,<-HB0.out];exact HO.out,by rw[<-HE3.out];omega,by rw[<-HB0.out];exact HB.out⟩
theorem Uf(w:World)(a:Option Addr)(c:Nat)(ls:List zH)(us:List zI)(h:lV w a us)(hA:yX ls us) :
 Calls Tryz.prog 133 #[.slice a us.length c] w fun e w'=>∃v,e=.returned v/\w'.ownsRow w.heap.size 9 1 v (pZ us).length (pY (pZ us))/\(pZ us).length<=us.length/\Below w.heap.size w w':=by
 obtain⟨i0,hi0,hz0,hz1,hz2⟩:=info_parts Zd;have HR:=zA h;have zGH:=h.few;have HA:=zA hA;obtain⟨B,hB⟩:∃B,B=w.heap.size:=⟨_,rfl⟩;have HB0:=zA hB;clear h hA hB
 go_enter Tryz.func133,Tryz.ntmps133
 go_wp2_with fail
 go_loopw [3,4] (fun ov iv wr=>∃(i:Nat) (acc:List Bs),i<=us.length/\acc.length<=i/\iv=.int .i64 i/\Hid (wr.ownsRow B 9 1 ov acc.length (pY acc))/\Hid (Below B w wr)/\Hid (sM us (us.length-i) i acc=pZ us)) (fun _ iv _=>us.length-(intOf iv).toNat)
 case atStart=>exact⟨0,[],Nat.zero_le _,Nat.le_refl _,rfl,zA (World.ownsRow_nil _ _ _ _),zA (Below.refl _ _),zA rfl⟩
 case round =>
  obtain⟨i,acc,hi,hacc,rfl,HO,HB,HE⟩:=hrel;by_cases zFZ:i<us.length
  ·have hRr:=HR.out.below (by have:=HB.out;rwa [HB0.out]at this)
   obtain⟨gl,g,o,cu,rfl,zGI,zG4,hlc,hcm,hsm⟩:=hRr.at zFZ;have hx:=HA.out.get i zFZ;have h2:=hx.two;have hc0:=(zG4.tok (show 0<(uA us i).length by omega)).2;have hc1:=(zG4.tok (show 1<(uA us i).length by omega)).1;rw[Nat.zero_mul,Nat.add_zero]at hc0;rw[Nat.one_mul]at hc1;have il0:(0:Int)<((uA us i).length:Int):=by omega
   have il1:(1:Int)<((uA us i).length:Int):=by omega
   have hE:=HE.out;rw[B6 us i acc zFZ]at hE;have HE2:=zA hE;have zG9:B<=wr.heap.size:=by have:=HB.out.size;have h2:=HB0.out;omega
   clear HE hE hRr hx zG4;by_cases k1:cA (uA us i) 0=zW
   ·rw[k1]at hc0
    simp only[zW]at hc0;have HE3:Hid (sM us (us.length-(i+1)) (i+1) (acc++[tA (uA us i) 1])=pZ us):=by have:=HE2.out;rw[if_pos k1]at this;exact this
    clear k1 HE2;generalize tA (uA us i) 1=cc at *
    go_wp2_with (at_builtin;refine wpList_append_own _ rfl _ _ 37 rfl B 9 i0 _ 1 16 Tryz.underlying37 hi0 hz0 hz1 hz2 rfl (by decide) _ _ _ rfl (HO.out.alloc _) ⟨wr.heap.size,0,none⟩ 1 1 [.string ⟨cc.toArray⟩] rfl rfl ?c1 ?c2 ?c3 ?c4 ?c5 ?_)
    case c1=>exact xI _ _ _ _ rfl
    case c2=>intro u hu;simp at hu;subst hu;rfl
    case c3=>unfold maxLen;omega
    case c4=>omega
    case c5=>simp;omega
    intro v' w2 zG2 zG0 _;have HB2:Hid (Below B w w2):=(HB.out.alloc zG9 _).grown zG0 (by simp;omega) (zZ HO.out);have HO2:Hid (w2.ownsRow B 9 1 v' (acc++[cc]).length (pY (acc++[cc]))):=by unfold Hid;rw[dO];simpa using zG2
    clear zG0 zG2;go_wp2_with fail
    go_roundw
    case rel=>exact⟨i+1,acc++[cc],by omega,by simp;omega,by go_num,HO2,HB2,HE3⟩
    case measure=>simp[intOf];omega
   ·have HE3:Hid (sM us (us.length-(i+1)) (i+1) acc=pZ us):=by have:=HE2.out;rw[if_neg k1]at this;exact this
    have b1:(cA (uA us i) 0==[114,117,108,101])=false:=by simpa[zW] using k1
    clear HE2 k1;generalize cA (uA us i) 0=cl at *;go_wp2_with fail
    go_roundw
    case rel=>exact⟨i+1,acc,by omega,by omega,by go_num,HO,HB,HE3⟩
    case measure=>simp[intOf];omega
  ·have HE3:Hid (acc=pZ us):=by have:=HE.out;rw[show us.length-i=0 by omega]at this;exact this
   clear HE;go_wp2_with fail
   go_ret
   exact⟨_,rfl,by rw[<-HE3.out,<-HB0.out];exact HO.out,by rw[<-HE3.out];omega,by rw[<-HB0.out];exact HB.out⟩
theorem Jg(p:zI->Bool)(us:List zI)(i:Nat)(h:i<us.length):(us.drop i).any p=(p (uA us i) || (us.drop (i+1)).any p):=by
 rw[List.drop_eq_getElem_cons h,List.any_cons];simp[uA,List.getD,h]
theorem yu(u:zI)(d:Bs)(k:Nat)(h:k<u.length):QI u d (u.length-k) k=(J6 u d k || QI u d (u.length-(k+1)) (k+1)):=by
 rw[show u.length-k=(u.length-(k+1))+1 by omega,QI]
theorem zCG(w:World)(a:Option Addr)(cp:Nat)(ls:List zH)(us:List zI)(c d:Bs)(h:lV w a us)(hA:yX ls us) :
 Calls Tryz.prog 111 #[.slice a us.length cp,.string ⟨c.toArray⟩,.string ⟨d.toArray⟩] w fun e w'=>e=.returned (.bool (bK us c d))/\w'=w:=by
 have HR:=zA h;have zGH:=h.few;have HA:=zA hA;clear h hA
 go_enter Tryz.func111,Tryz.ntmps111
 go_wp2_with fail
 go_loop [7] (fun iv=>∃(i:Nat),i<=us.length/\iv=.int .i64 i/\Hid ((us.drop i).any (yt c d)=bK us c d)) (fun iv=>us.length-(intOf iv).toNat)
 case atStart=>exact⟨0,Nat.zero_le _,rfl,zA rfl⟩
 case round =>
  obtain⟨i,hi,rfl,HE⟩:=hrel;by_cases zFZ:i<us.length
  ·obtain⟨gl,g,o,cu,rfl,zGI,zG4,hlc,hcm,hsm⟩:=HR.out.at zFZ
   have hx:=HA.out.get i zFZ;have h2:=hx.two;have hc0:=(zG4.tok (show 0<(uA us i).length by omega)).2;rw[Nat.zero_mul,Nat.add_zero]at hc0;have il0:(0:Int)<((uA us i).length:Int):=by omega
   have hE:=HE.out;rw[Jg _ us i zFZ]at hE;have HE2:=zA hE;have HRl:=zA (fun hk=>hx.rule hk);have HSg:=zA zG4;clear HE hE hx zG4;generalize uA us i=u at *;by_cases k1:cA u 0=zW
   ·obtain⟨w0,hw⟩:=HRl.out k1
    have hwlo:=hw.wlo;have hwhi:=hw.whi;have HWn:=zA hw.wB;have HWA:=zA hw.wAt;have hc3:=(HSg.out.tok (show 3<u.length by omega)).1;rw[show 3*3=9 from rfl]at hc3;have il3:(3:Int)<(u.length:Int):=by omega
    by_cases k2:tA u 3=c
    ·have HE3:Hid ((QI u d (u.length-5) 5 || (us.drop (i+1)).any (yt c d))=bK us c d):=by have:=HE2.out;unfold yt at this;rw[decide_eq_true k1,decide_eq_true k2]at this;exact this
     rw[k1]at hc0;simp only[zW]at hc0;rw[k2]at hc3;clear HE2 k1 k2 HRl hw;go_wp2_with fail
     refine(iT u g o cu _ HSg.out (by omega) hlc).mono ?_;rintro e w1 ⟨rfl,hw⟩;obtain rfl:=hw.symm;rw[HWn.out];go_wp2_with fail
     go_loop [10] (fun kv=>∃(k:Nat),5<=k/\k<=u.length/\kv=.int .i64 k/\Hid (QI u d (u.length-k) k=QI u d (u.length-5) 5)) (fun kv=>u.length-(intOf kv).toNat)
     case atStart=>exact⟨5,Nat.le_refl _,by omega,rfl,zA rfl⟩
     case round =>
      obtain⟨k,hk5,hk,rfl,HEk⟩:=hrel;by_cases hltk:k<u.length
      ·have hck:=(HSg.out.tok hltk).2
       have htk:=(HSg.out.tok hltk).1;obtain⟨k',rfl⟩:∃k',k=k'+1:=⟨k-1,by omega⟩;have hcp:=(HSg.out.tok (show k'<u.length by omega)).2;have ikl:((k':Int)+1)<(u.length:Int):=by omega
       have ikp:(k':Int)<(u.length:Int):=by omega
       have hE:=HEk.out;rw[yu u d (k'+1) hltk]at hE;unfold J6 at hE;rw[HWA.out,show k'+1-1=k' by omega]at hE;have HE4:=zA hE;clear HEk hE;generalize cA u (k'+1)=cl at *;generalize tA u (k'+1)=tt at *;generalize cA u k'=clp at *;by_cases j1:cl=yQ
       ·have b1:(cl==[78,65,77,69])=true:=by simpa[yQ] using j1
        by_cases j2:tt=d
        ·have b2:(tt==d)=true:=by simpa using j2
         by_cases j3:k'+1<w0
         ·have HF:Hid (bK us c d=true):=by unfold Hid;rw[<-HE3.out,<-HE4.out,decide_eq_true j1,decide_eq_true j2,decide_eq_true j3];rfl
          have i3:((k':Int)+1)<(w0:Int):=by omega
          clear HE4 j1 j2;go_wp2_with fail
          go_ret
          exact⟨zE HF.out.symm,rfl⟩
         ·have i3:decide (((k':Int)+1)<(w0:Int))=false:=decide_eq_false (by omega)
          by_cases j4:clp=[104,97,115]
          ·have HF:Hid (bK us c d=true):=by unfold Hid;rw[<-HE3.out,<-HE4.out,decide_eq_true j1,decide_eq_true j2,decide_eq_true j4,Bool.or_true];rfl
           have b4:(clp==[104,97,115])=true:=by simpa using j4
           clear HE4 j1 j2 j4;go_wp2_with fail
           go_ret
           exact⟨zE HF.out.symm,rfl⟩
          ·have HE5:Hid (QI u d (u.length-(k'+1+1)) (k'+1+1)=QI u d (u.length-5) 5):=by have:=HE4.out;rw[decide_eq_false j3,decide_eq_false j4,Bool.false_or,Bool.and_false,Bool.and_false,Bool.false_or]at this;exact this
           have b4:(clp==[104,97,115])=false:=by simpa using j4
           clear HE4 j1 j2 j4;go_wp2_with fail
           go_round
           case rel=>exact⟨k'+1+1,by omega,by omega,by go_num,HE5⟩
           case measure=>simp[intOf];omega
        ·have HE5:Hid (QI u d (u.length-(k'+1+1)) (k'+1+1)=QI u d (u.length-5) 5):=by have:=HE4.out;rw[decide_eq_false j2,Bool.false_and,Bool.and_false,Bool.false_or]at this;exact this
         have b2:(tt==d)=false:=by simpa using j2
         clear HE4 j1 j2;go_wp2_with fail
         go_round
         case rel=>exact⟨k'+1+1,by omega,by omega,by go_num,HE5⟩
         case measure=>simp[intOf];omega
       ·have HE5:Hid (QI u d (u.length-(k'+1+1)) (k'+1+1)=QI u d (u.length-5) 5):=by have:=HE4.out;rw[decide_eq_false j1,Bool.false_and,Bool.false_or]at this;exact this
        have b1:(cl==[78,65,77,69])=false:=by simpa[yQ] using j1
        clear HE4 j1;go_wp2_with fail
        go_round
        case rel=>exact⟨k'+1+1,by omega,by omega,by go_num,HE5⟩
        case measure=>simp[intOf];omega
      ·have HE5:Hid ((us.drop (i+1)).any (yt c d)=bK us c d):=by
        have h1:=HEk.out;rw[show u.length-k=0 by omega]at h1;have h2:=HE3.out;rw[<-h1]at h2;exact h2
       clear HEk HE3;go_wp2_with fail
       go_round
       case rel=>exact⟨i+1,by omega,by go_num,HE5⟩
       case measure=>simp[intOf];omega
    ·have HE3:Hid ((us.drop (i+1)).any (yt c d)=bK us c d):=by have:=HE2.out;unfold yt at this;rw[decide_eq_false k2,Bool.false_and,Bool.and_false,Bool.false_or]at this;exact this
     have b2:(tA u 3==c)=false:=by simpa using k2
     rw[k1]at hc0;simp only[zW]at hc0;clear HE2 k1 k2 HRl hw;generalize tA u 3=tt at *;go_wp2_with fail
     go_round
     case rel=>exact⟨i+1,by omega,by go_num,HE3⟩
     case measure=>simp[intOf];omega
   ·have HE3:Hid ((us.drop (i+1)).any (yt c d)=bK us c d):=by have:=HE2.out;unfold yt at this;rw[decide_eq_false k1,Bool.false_and,Bool.false_or]at this;exact this
    have b1:(cA u 0==[114,117,108,101])=false:=by simpa[zW] using k1
    clear HE2 k1 HRl;generalize cA u 0=cl at *;go_wp2_with fail
    go_round
    case rel=>exact⟨i+1,by omega,by go_num,HE3⟩
    case measure=>simp[intOf];omega
  ·have HE3:Hid (bK us c d=false):=by have:=HE.out;rw[List.drop_eq_nil_of_le (by omega)]at this;exact this.symm
   clear HE;go_wp2_with fail
   go_ret
   exact⟨zE HE3.out.symm,rfl⟩
theorem zEV(w:World)(a:Option Addr)(cp:Nat)(ls:List zH)(us:List zI)(x y:Bs)(h:lV w a us)(hA:yX ls us) :
 Calls Tryz.prog 200 #[.slice a us.length cp,.string ⟨x.toArray⟩,.string ⟨y.toArray⟩] w fun e w'=>e=.returned (.bool (sH us x y))/\w'=w:=by
 have HR:=zA h;have zGH:=h.few;have HA:=zA hA;clear h hA
 go_enter Tryz.func200,Tryz.ntmps200
 go_wp2_with fail
 go_loop [7] (fun iv=>∃(i:Nat),i<=us.length/\iv=.int .i64 i/\Hid ((us.drop i).any (yj x y)=sH us x y)) (fun iv=>us.length-(intOf iv).toNat)
 case atStart=>exact⟨0,Nat.zero_le _,rfl,zA rfl⟩
 case round =>
  obtain⟨i,hi,rfl,HE⟩:=hrel;by_cases zFZ:i<us.length
  ·obtain⟨gl,g,o,cu,rfl,zGI,zG4,hlc,hcm,hsm⟩:=HR.out.at zFZ
   have hx:=HA.out.get i zFZ;have h2:=hx.two
   have h3:cA (uA us i) 0=tW->3<=(uA us i).length:=fun hk=>by
    rcases hx.kind with ⟨_,b,_⟩|⟨_,b⟩|⟨_,_,h3,_⟩|⟨_,b,_⟩
    ·exact absurd (b.symm.trans hk) (by decide)
    ·exact absurd (b.symm.trans hk) (by decide)
    ·exact h3
    ·exact absurd (b.symm.trans hk) (by decide)
   have H3:=zA h3;have hc0:=(zG4.tok (show 0<(uA us i).length by omega)).2;have hc1:=(zG4.tok (show 1<(uA us i).length by omega)).1;rw[Nat.zero_mul,Nat.add_zero]at hc0;rw[Nat.one_mul]at hc1;have il0:(0:Int)<((uA us i).length:Int):=by omega
   have il1:(1:Int)<((uA us i).length:Int):=by omega
   have hE:=HE.out;rw[Jg _ us i zFZ]at hE;have HE2:=zA hE;have HSg:=zA zG4;clear HE hE hx zG4 h3;generalize uA us i=u at *;by_cases k1:cA u 0=tW
   ·have h3:=H3.out k1
    have hc2:=(HSg.out.tok (show 2<u.length by omega)).1;rw[show 2*3=6 from rfl]at hc2;have il2:(2:Int)<(u.length:Int):=by omega
    rw[k1]at hc0;simp only[tW]at hc0;by_cases k2:tA u 1=x
    ·by_cases k3:tA u 2=y
     ·have HF:Hid (sH us x y=true):=by have:=HE2.out;unfold yj at this;rw[decide_eq_true k1,decide_eq_true k2,decide_eq_true k3]at this;exact this.symm
      have b2:(tA u 1==x)=true:=by simpa using k2
      have b3:(tA u 2==y)=true:=by simpa using k3
      clear HE2 k1 k2 k3 H3;generalize tA u 1=t1 at *;generalize tA u 2=t2 at *;go_wp2_with fail
      go_ret
      exact⟨zE HF.out.symm,rfl⟩
     ·have HE3:Hid ((us.drop (i+1)).any (yj x y)=sH us x y):=by have:=HE2.out;unfold yj at this;rw[decide_eq_false k3,Bool.and_false,Bool.and_false,Bool.false_or]at this;exact this
      have b2:(tA u 1==x)=true:=by simpa using k2
      have b3:(tA u 2==y)=false:=by simpa using k3
      clear HE2 k1 k2 k3 H3;generalize tA u 1=t1 at *;generalize tA u 2=t2 at *;go_wp2_with fail
      go_round
      case rel=>exact⟨i+1,by omega,by go_num,HE3⟩
      case measure=>simp[intOf];omega
    ·have HE3:Hid ((us.drop (i+1)).any (yj x y)=sH us x y):=by have:=HE2.out;unfold yj at this;rw[decide_eq_false k2,Bool.false_and,Bool.and_false,Bool.false_or]at this;exact this
     have b2:(tA u 1==x)=false:=by simpa using k2
     clear HE2 k1 k2 H3;generalize tA u 1=t1 at *;go_wp2_with fail
     go_round
     case rel=>exact⟨i+1,by omega,by go_num,HE3⟩
     case measure=>simp[intOf];omega
   ·have HE3:Hid ((us.drop (i+1)).any (yj x y)=sH us x y):=by have:=HE2.out;unfold yj at this;rw[decide_eq_false k1,Bool.false_and,Bool.false_or]at this;exact this
    have b1:(cA u 0==[111,118,101,114])=false:=by simpa[tW] using k1
    clear HE2 k1 H3;generalize cA u 0=cl at *;go_wp2_with fail
    go_round
    case rel=>exact⟨i+1,by omega,by go_num,HE3⟩
    case measure=>simp[intOf];omega
  ·have HE3:Hid (sH us x y=false):=by have:=HE.out;rw[List.drop_eq_nil_of_le (by omega)]at this;exact this.symm
   clear HE;go_wp2_with fail
   go_ret
   exact⟨zE HE3.out.symm,rfl⟩
theorem zDI(w:World)(a:Option Addr)(cp:Nat)(ls:List zH)(us:List zI)(r:Bool)(x y:Bs)(h:lV w a us)(hA:yX ls us) :
 Calls Tryz.prog 143 #[.slice a us.length cp,.bool r,.string ⟨x.toArray⟩,.string ⟨y.toArray⟩] w fun e w'=>e=.returned (.bool (nN us r x y))/\w'=w:=by
 have H1:=zA (zEV w a cp ls us x y h hA);have H2:=zA (zCG w a cp ls us x y h hA);clear h hA;cases r
 ·have HR:Hid (nN us false x y=bK us x y):=rfl
  generalize nN us false x y=z at *
  go_enter Tryz.func143,Tryz.ntmps143
  go_wp2_with fail
  refine H2.out.mono ?_;rintro e w1 ⟨rfl,hw⟩;obtain rfl:=hw.symm;go_wp2_with fail
  go_ret
  exact⟨zE HR.out.symm,rfl⟩
 ·have HR:Hid (nN us true x y=sH us x y):=rfl
  generalize nN us true x y=z at *
  go_enter Tryz.func143,Tryz.ntmps143
  go_wp2_with fail
  refine H1.out.mono ?_;rintro e w1 ⟨rfl,hw⟩;obtain rfl:=hw.symm;go_wp2_with fail
  go_ret
  exact⟨zE HR.out.symm,rfl⟩
def xV(w:World)(g:Nat)(l:List Bool):Prop:=w.heap[g]? = some (.cells (gC l) 4 (0,0))
theorem xV.cell{w:World}{g:Nat}{l:List Bool}(h:xV w g l){k:Nat}(hk:k<l.length):w.cell? ⟨g,k,none⟩=some (.bool (l.getD k false)):=by
 simp only[World.cell?,show w.heap[g]? = _ from h];exact uu hk
theorem xV.free{w:World}{g:Nat}{l:List Bool}(h:xV w g l)(k:Nat):w.frozen? ⟨g,k,none⟩=false:=by simp[World.frozen?,show w.heap[g]? = _ from h]
theorem xV.lt{w:World}{g:Nat}{l:List Bool}(h:xV w g l):g<w.heap.size:=by
 rcases Nat.lt_or_ge g w.heap.size with h1|h1
 ·exact h1
 ·have h2:w.heap[g]? = _:=h;rw[Array.getElem?_eq_none h1]at h2;cases h2
theorem xV.set{w:World}{g:Nat}{l:List Bool}(h:xV w g l)(k:Nat)(b:Bool):xV (w.setCell ⟨g,k,none⟩ (.bool b)) g (l.set k b):=by
 unfold xV at h ⊢;rw[setCell_eq_setRow w g k _ _ _ _ h,setRow_heap w g (gC l) _ _ _ h];congr 2
 simp[gC,List.map_set]
theorem xL.drew{g:Nat}{a b:World}(h:xL g a b):xL g a b.drew:=⟨h.os,h.tape,h.output,h.size,h.block⟩
theorem tV(n:Nat):madeCells #[Value.bool false] n=gC (List.replicate n false):=by
 apply Array.ext
 ·simp[madeCells,gC]
 ·intro i h1 h2
  simp[madeCells,gC,Nat.mod_one]
def jY(m:Nat->Nat->Bool)(i N k:Nat):List Bool:=(List.range N).map fun j=>decide (j<k)&&m i j
theorem nP(m:Nat->Nat->Bool)(i N k:Nat):(jY m i N k).length=N:=by simp[jY]
theorem YY(m:Nat->Nat->Bool)(i N:Nat):jY m i N 0=List.replicate N false:=by
 apply List.ext_getElem
 ·simp[jY]
 ·intro n h1 h2;simp[jY]
theorem Q9(m:Nat->Nat->Bool)(i N k:Nat):(jY m i N k).set k (m i k)=jY m i N (k+1):=by
 apply List.ext_getElem
 ·simp[jY]
 ·intro n h1 h2
  simp only[jY,List.getElem_set,List.getElem_map,List.getElem_range];by_cases h:k=n
  ·subst h;simp
  ·rw[if_neg h]
   congr 1
   rw[decide_eq_decide];omega
theorem Zv(m:Nat->Nat->Bool)(i N k:Nat)(hk:k<N):(jY m i N N).getD k false=m i k:=by
 simp[jY,List.getD,hk]
def DC(N g:Nat):Value:=.slice (some ⟨g,0,none⟩) N N
structure fP(B:Nat)(w:World)(v:Value)(gs:List Nat)(m:Nat->Nat->Bool)(N k:Nat):Prop where
 len:gs.length=k
 own:w.ownsRow B 180 1 v gs.length (gs.map (DC N))
 rows:∀j,j<k->xV w (gs.getD j 0) (jY m j N N)
theorem CV:(Tryz.prog.info? 180).map (fun i=>(i.zero,i.size,i.bytes))=some (some (.slice none 0 0),1,24):=by kernel_rfl
theorem mA:(Tryz.prog.info? 4).map (fun i=>(i.zero,i.size,i.bytes))=some (some (.bool false),1,1):=by kernel_rfl
theorem QG{w w':World}{B:Nat}{e:TypeId}{size:Nat}{v:Value}{n:Nat}{xs:List Value}(h:w.ownsRow B e size v n xs)(hb:Below w.heap.size w w'):w'.ownsRow B e size v n xs:=by
 refine⟨h.1,?_⟩;rcases h.2 with h1|⟨g,cap,yP,h1,h2,h3,r⟩
 ·exact .inl h1
 ·refine .inr ⟨g,cap,yP,h1,h2,?_,r⟩
  have zFZ:g<w.heap.size:=by
   rcases Nat.lt_or_ge g w.heap.size with h|h
   ·exact h
   ·rw[Array.getElem?_eq_none h]at h3;cases h3
  rw[hb.block g zFZ];exact h3
theorem xV.below{w w':World}{g:Nat}{l:List Bool}(h:xV w g l)(hb:Below w.heap.size w w'):xV w' g l:=by
 have hl:=h.lt;unfold xV at h ⊢;rw[hb.block g hl];exact h
theorem xV.grown{w w':World}{g B:Nat}{l:List Bool}{v:Value}{n:Nat}{xs:List Value}(h:xV w g l)(hl:w.ownsRow B 180 1 v n xs)(hg:w.grownBy w' v.ownBlock):xV w' g l:=by
 have zFZ:=h.lt;unfold xV at h ⊢;rw[hg.block g zFZ ?_];· exact h
 intro hE;rcases hl.2 with ⟨k1,_⟩|⟨g',cap',cur',k1,_,k3,_⟩
 ·rw[k1]at hE;simp[Value.ownBlock]at hE
 ·rw[k1]at hE
  simp[Value.ownBlock]at hE;subst hE;rw[h]at k3;simp at k3
theorem fP.snoc{B N i g:Nat}{w w':World}{v v':Value}{gs:List Nat}{m:Nat->Nat->Bool}(h:fP B w v gs m N i)(hr:xV w g (jY m i N N))(hg:w.grownBy w' v.ownBlock)(zG1:w'.ownsRow B 180 1 v' (gs.length+1) (gs.map (DC N)++[DC N g])):fP B w' v' (gs++[g]) m N (i+1):=by
 refine⟨by rw[List.length_append,List.length_singleton,h.len],by rw[List.length_append,List.map_append];exact zG1,fun j hj=>?_⟩;have hl:=h.len;rcases Nat.lt_or_ge j i with h1|h1
 ·have e:(gs++[g]).getD j 0=gs.getD j 0:=by rw[List.getD,List.getD,List.getElem?_append_left (by omega)]
  rw[e];exact(h.rows j h1).grown h.own hg
 ·obtain rfl:j=i:=by omega
  have e:(gs++[g]).getD j 0=g:=by rw[List.getD,List.getElem?_append_right (by omega),hl];simp
  rw[e];exact hr.grown h.own hg
theorem aG.below{w w':World}{a:Option Addr}{names:List Bs}(h:aG w a names)(hb:Below w.heap.size w w'):aG w' a names :=
 ⟨fun h0=>let ⟨g,e,p⟩:=h.blk h0;⟨g,e,fun i hi=>by rw[hb.cell (p:=⟨g,i,none⟩) (xG (p i hi))];exact p i hi⟩,h.few⟩
theorem jy(w:World)(a:Option Addr)(cp:Nat)(ls:List zH)(us:List zI)(r:Bool)(na:Option Addr)(nc:Nat)(names:List Bs)(h:lV w a us)(hA:yX ls us)(hn:aG w na names) :
 Calls Tryz.prog 193 #[.slice a us.length cp,.bool r,.slice na names.length nc] w fun e w'=>∃v gs,e=.returned v/\fP w.heap.size w' v gs (kW us r names) names.length names.length/\Below w.heap.size w w':=by
 obtain⟨i0,hi0,hz0,hz1,hz2⟩:=info_parts CV;obtain⟨i1,hj0,hj1,hj2,hj3⟩:=info_parts mA;have HR:=zA h;have HA:=zA hA;have HN:=zA hn;have zGH:=hn.few;have hlen64:i1.bytes*names.length<=281474976710656:=by rw[hj3];omega
 have hlen63:names.length<=9223372036854775807:=by omega
 obtain⟨B,hB⟩:∃B,B=w.heap.size:=⟨_,rfl⟩;have HB0:=zA hB;have HB1:=zA hlen64;have HB2:=zA hlen63;clear h hA hn hB hlen64 hlen63
 go_enter Tryz.func193,Tryz.ntmps193
 go_wp2_with fail
 go_loopw [7,8] (fun ov iv wr=>∃(i:Nat) (gs:List Nat),i<=names.length/\iv=.int .i64 i/\Hid (fP B wr ov gs (kW us r names) names.length i)/\Hid (Below B w wr)) (fun _ iv _=>names.length-(intOf iv).toNat)
 case atStart=>exact⟨0,[],Nat.zero_le _,rfl,zA ⟨rfl,World.ownsRow_nil _ _ _ _,fun j hj=>absurd hj (by omega)⟩,zA (Below.refl _ _)⟩
 case round =>
  obtain⟨i,gs,hi,rfl,HM,HB⟩:=hrel;by_cases zFZ:i<names.length
  ·have zG9:B<=wr.heap.size:=by have:=HB.out.size;have h2:=HB0.out;omega
   obtain⟨wo,hwo⟩:∃wo,wo=wr:=⟨_,rfl⟩;subst hwo;have HZ:=zA (show (Value.bool false).cells = #[Value.bool false] from rfl)
   go_wp2_with (with_reducible refine wpList_make_row _ ?hg (.tmp 18) (.tmp 18) 180 ?zGS 4 i1 (.bool false) Tryz.underlying180 hj0 hj1 hj2 HZ.out .i64 .i64 names.length ?hl ?hc HB1.out HB2.out ?_
                case zGS=>rfl
                case hg=>rfl
                case hl=>rfl
                case hc=>rfl)
   have hM0:xV (wo.alloc (.cells (madeCells #[Value.bool false] names.length) 4)) wo.heap.size (jY (kW us r names) i names.length 0):=by
    unfold xV;rw[YY,<-tV];exact zS _ _
   have hO0:Below wo.heap.size wo (wo.alloc (.cells (madeCells #[Value.bool false] names.length) 4)):=(Below.refl _ _).alloc (Nat.le_refl _) _;have hS0:wo.heap.size<(wo.alloc (.cells (madeCells #[Value.bool false] names.length) 4)).heap.size:=zD _ _;generalize wo.alloc (.cells (madeCells #[Value.bool false] names.length) 4)=wq at *;have HM0:=zA hM0;have HO0:=zA hO0;have HS0:=zA hS0;clear hM0 hO0 hS0
   go_loopw [10] (fun kv wr=>∃(k:Nat),k<=names.length/\kv=.int .i64 k/\Hid (xV wr wo.heap.size (jY (kW us r names) i names.length k))/\Hid (xL wo.heap.size wq wr)) (fun kv _=>names.length-(intOf kv).toNat)
   case atStart=>exact⟨0,Nat.zero_le _,rfl,HM0,zA (xL.refl _ _)⟩
   case round =>
    obtain⟨k,hk,rfl,HMk,HOk⟩:=hrel;clear HM0;by_cases hltk:k<names.length
    ·have hbw:Below w.heap.size w wr:=by
      have h1:=HB.out;rw[HB0.out]at h1;have h2:w.heap.size<=wo.heap.size:=h1.size;exact h1.trans ((HO0.out.mono h2).trans (HOk.out.below (Nat.le_trans h2 (Nat.le_of_lt HS0.out)) h2))
     obtain⟨ng,rfl,hcs⟩:=(HN.out.below hbw).blk (by omega);have hci:=hcs i zFZ;have hck:=hcs k hltk;have HSt:=zA (fun w' (hb:Below wr.heap.size wr w') x y=>zDI w' a cp ls us r x y ((HR.out.below hbw).below hb) HA.out);have zGI:=HMk.out.cell (k:=k) (by rw[nP];exact hltk);have hfree:=HMk.out.free k;have ik:(k:Int)<(names.length:Int):=by omega
     have ii:(i:Int)<(names.length:Int):=by omega
     have HV:Hid (kW us r names i k=nN us r (names.getD i []) (names.getD k [])):=rfl;clear hbw hcs;generalize names.getD i []=x at *;generalize names.getD k []=y at *;have HSt2:=zA (fun w' (hb:Below wr.heap.size wr w')=>HSt.out w' hb x y);clear HSt;generalize nN us r x y=z at *;go_wp2_with fail
     go_region_with (go_at_call 143
                     refine(HSt2.out _ (Below.drew (Below.refl _ _))).mono ?_;rintro e w1 ⟨rfl,hw⟩;obtain rfl:=hw.symm)
     all_goals
      have HM2:Hid (xV (wr.drew.setCell ⟨wo.heap.size,k,none⟩ (.bool z)) wo.heap.size (jY (kW us r names) i names.length (k+1))):=by
       unfold Hid;rw[<-Q9,HV.out];exact xV.set (w:=wr.drew) HMk.out k z
      have HO2:Hid (xL wo.heap.size wq (wr.drew.setCell ⟨wo.heap.size,k,none⟩ (.bool z))):=HOk.out.drew.trans (xL.set _ _ _ _);go_wp2_with fail
      go_roundw
      case rel=>exact⟨k+1,by omega,by go_num,HM2,HO2⟩
      case measure=>simp[intOf];omega
    ·obtain rfl:k=names.length:=by omega
     have hbo:Below wo.heap.size wo wr:=HO0.out.trans (HOk.out.below (Nat.le_of_lt HS0.out) (Nat.le_refl _));have HMr:=zA (show fP B wr _ gs (kW us r names) names.length i from ⟨HM.out.len,QG HM.out.own hbo,fun j hj=>(HM.out.rows j hj).below hbo⟩);have zGQ:Hid (Below B w wr):=HB.out.trans (hbo.mono zG9);have zGL:B<=wr.heap.size:=Nat.le_trans zG9 hbo.size;have hgl:gs.length<=names.length:=by rw[HM.out.len];omega
     clear hbo
     go_wp2_with (at_builtin;refine wpList_append_own _ rfl _ _ 253 rfl B 180 i0 _ 1 24 Tryz.underlying253 hi0 hz0 hz1 hz2 rfl (by decide) _ _ _ rfl (HMr.out.own.alloc _) ⟨wr.heap.size,0,none⟩ 1 1 [DC names.length wo.heap.size] rfl rfl ?c1 ?c2 ?c3 ?c4 ?c5 ?_)
     case c1=>exact xI _ _ _ _ rfl
     case c2=>intro u hu;simp at hu;subst hu;rfl
     case c3=>unfold maxLen;omega
     case c4=>omega
     case c5=>simp;omega
     intro v' w2 zG2 zG0 _;have HB2:Hid (Below B w w2):=(zGQ.out.alloc zGL _).grown zG0 (by simp;omega) (zZ HMr.out.own)
     have HM2:Hid (fP B w2 v' (gs++[wo.heap.size]) (kW us r names) names.length (i+1)):=by
      refine fP.snoc (w:=wr.alloc _) ⟨HMr.out.len,HMr.out.own.alloc _,fun j hj=>?_⟩ ?_ zG0 zG2
      ·exact(HMr.out.rows j hj).below ((Below.refl _ _).alloc (Nat.le_refl _) _)
      ·exact HMk.out.below ((Below.refl _ _).alloc (Nat.le_refl _) _)
     clear zG0 zG2;go_wp2_with fail
     go_roundw
     case rel=>exact⟨i+1,gs++[wo.heap.size],by omega,by go_num,HM2,HB2⟩
     case measure=>simp[intOf];omega
  ·have HE:Hid (i=names.length):=by unfold Hid;omega
   go_wp2_with fail
   go_ret
   refine⟨_,gs,rfl,?_,by rw[<-HB0.out];exact HB.out⟩;have:=HM.out;rw[HE.out,HB0.out]at this;exact this
theorem JM(m:Nat->Nat->Bool)(fr:Bool)(x N y:Nat)(s:List Bool)(h:y<N):lY m fr x (N-y) y s=lY m fr x (N-(y+1)) (y+1) (if fr&&m x y then s.set y true else s):=by
 rw[show N-y=(N-(y+1))+1 by omega,lY]
theorem zB4(m:Nat->Nat->Bool)(i N x:Nat)(s:List Bool)(h:x<N):lX m i N (N-x) x s=lX m i N (N-(x+1)) (x+1) (lY m (zE5 i x s) x N 0 s):=by
 rw[show N-x=(N-(x+1))+1 by omega,lX]
theorem zB6(m:Nat->Nat->Bool)(i N n:Nat)(s:List Bool)(h:n<N+1):lN m i N (N+1-n) s=lN m i N (N+1-(n+1)) (lX m i N N 0 s):=by
 rw[show N+1-n=(N+1-(n+1))+1 by omega,lN]
theorem fP.row{B N:Nat}{w:World}{v:Value}{gs:List Nat}{m:Nat->Nat->Bool}(h:fP B w v gs m N N){x:Nat}(hx:x<N):∃gm cm,v=.slice (some ⟨gm,0,none⟩) N cm/\w.cell? ⟨gm,x,none⟩=some (.slice (some ⟨gs.getD x 0,0,none⟩) N N)/\gm<w.heap.size/\xV w (gs.getD x 0) (jY m x N N):=by
 rcases h.own.2 with ⟨_,h2⟩|⟨g,cap,yP,h1,_,h3,_,_,_,h7⟩
 ·have:=h.len;omega
 ·refine⟨g,cap,by rw[h1,h.len],?_,?_,h.rows x hx⟩
  ·refine xQ h3 h7 ?_
   rw[List.getElem?_map];simp[List.getD,DC,show x<gs.length by rw[h.len];exact hx]
  ·rcases Nat.lt_or_ge g w.heap.size with h9|h9
   ·exact h9
   ·rw[Array.getElem?_eq_none h9]at h3;cases h3
theorem fP.below{B N k:Nat}{w w':World}{v:Value}{gs:List Nat}{m:Nat->Nat->Bool}(h:fP B w v gs m N k)(hb:Below w.heap.size w w'):fP B w' v gs m N k :=
 ⟨h.len,QG h.own hb,fun j hj=>(h.rows j hj).below hb⟩
theorem Kj(w:World)(a:Option Addr)(cp:Nat)(ls:List zH)(us:List zI)(r:Bool)(na:Option Addr)(nc:Nat)(names:List Bs)(i k:Nat)(hk:k<names.length)(h:lV w a us)(hA:yX ls us)(hn:aG w na names) :
 Calls Tryz.prog 134 #[.slice a us.length cp,.bool r,.slice na names.length nc,.int .i64 i,.int .i64 k] w fun e w'=>e=.returned (.bool (lO (kW us r names) names.length i k))/\Below w.heap.size w w':=by
 obtain⟨i1,hj0,hj1,hj2,hj3⟩:=info_parts mA;have zGH:=hn.few;have HS:=zA (jy w a cp ls us r na nc names h hA hn);have HB1:=zA (show i1.bytes*names.length<=281474976710656 by rw[hj3];omega);have HB2:=zA (show names.length<=9223372036854775807 by omega);have HZ:=zA (show (Value.bool false).cells = #[Value.bool false] from rfl);have HL:Hid (lO (kW us r names) names.length i k=(lN (kW us r names) i names.length (names.length+1) (List.replicate names.length false)).getD k false):=rfl;clear h hA hn;generalize lO (kW us r names) names.length i k=ans at *;generalize kW us r names=m at *;generalize hN:names.length=N at *;clear hN
 go_enter Tryz.func134,Tryz.ntmps134
 go_wp2_with fail
 refine HS.out.mono ?_;rintro e w1 ⟨v,gs,rfl,hM,hb1⟩;have HM:=zA hM;have HBl:=zA hb1;obtain⟨gm,cm,hv⟩:∃gm cm,v=.slice (some ⟨gm,0,none⟩) N cm:=by obtain⟨gm,cm,h1,_⟩:=hM.row (show k<N from hk);exact⟨gm,cm,h1⟩
 subst hv;clear hM hb1 HS
 go_wp2_with (with_reducible refine wpList_make_row _ ?hg (.tmp 22) (.tmp 22) 180 ?zGS 4 i1 (.bool false) Tryz.underlying180 hj0 hj1 hj2 HZ.out .i64 .i64 N ?hl ?hc HB1.out HB2.out ?_
              case zGS=>rfl
              case hg=>rfl
              case hl=>rfl
              case hc=>rfl)
 have hM0:xV (w1.alloc (.cells (madeCells #[Value.bool false] N) 4)) w1.heap.size (List.replicate N false):=by
  unfold xV;rw[<-tV];exact zS _ _
 have hO0:xL w1.heap.size w1 (w1.alloc (.cells (madeCells #[Value.bool false] N) 4)):=(xL.refl _ _).alloc _;generalize w1.alloc (.cells (madeCells #[Value.bool false] N) 4)=wq at *;have HM0:=zA hM0;have HO0:=zA hO0;clear hM0 hO0 HB1 HB2 HZ;generalize hgb:w1.heap.size=gb at *;have HGB:=zA hgb;clear hgb
 go_loopw [13] (fun nv wr=>∃(n:Nat) (s:List Bool),n<=N+1/\s.length=N/\nv=.int .i64 n/\Hid (xV wr gb s)/\Hid (xL gb w1 wr)/\Hid (lN m i N (N+1-n) s=lN m i N (N+1) (List.replicate N false))) (fun nv _=>N+1-(intOf nv).toNat)
 case atStart=>exact⟨0,_,Nat.zero_le _,by simp,rfl,HM0,HO0,zA rfl⟩
 case round =>
  obtain⟨n,s,hn,hs,rfl,HMn,HOn,HEn⟩:=hrel;clear HM0 HO0;by_cases hltn:n<N+1
  ·have hE:=HEn.out
   rw[zB6 m i N n s hltn]at hE;have HE1:=zA hE;clear HEn hE;obtain⟨wn,hwn⟩:∃wn,wn=wr:=⟨_,rfl⟩;subst hwn;have inN:(n:Int)<=(N:Int):=by omega
   go_wp2_with fail
   go_loopw [14] (fun xv wr=>∃(x:Nat) (s':List Bool),x<=N/\s'.length=N/\xv=.int .i64 x/\Hid (xV wr gb s')/\Hid (xL gb w1 wr)/\Hid (lX m i N (N-x) x s'=lX m i N N 0 s)) (fun xv _=>N-(intOf xv).toNat)
   case atStart=>exact⟨0,s,Nat.zero_le _,hs,rfl,HMn,HOn,zA rfl⟩
   case round =>
    obtain⟨x,s2,hx,hs2,rfl,HMx,HOx,HEx⟩:=hrel;clear HMn HOn;by_cases hltx:x<N
    ·have hE:=HEx.out
     rw[zB4 m i N x s2 hltx]at hE;have HE2:=zA hE;clear HEx hE;have hcx:=HMx.out.cell (k:=x) (by omega);have HFr:Hid (zE5 i x s2=(decide (x=i) || s2.getD x false)):=rfl;obtain⟨wx,hwx⟩:∃wx,wx=wr:=⟨_,rfl⟩;subst hwx;have ix:(x:Int)<(N:Int):=by omega
     generalize hzz:s2.getD x false=zz at *;clear hzz;generalize hfr:zE5 i x s2=fr at *;have HFQ:=zA hfr;clear hfr;have HFv:Hid (fr=(decide (x=i) || zz)):=HFr.out;clear HFr HFQ;by_cases hxi:x=i
     ·have b1:((x:Int)==(i:Int))=true:=by simp;omega
      obtain rfl:fr=true:=by rw[HFv.out,decide_eq_true hxi];rfl
      clear HFv hxi;go_wp2_with fail
      go_loopw [16] (fun yv wr=>∃(y:Nat) (s3:List Bool),y<=N/\s3.length=N/\yv=.int .i64 y/\Hid (xV wr gb s3)/\Hid (xL gb w1 wr)/\Hid (lY m true x (N-y) y s3=lY m true x N 0 s2)) (fun yv _=>N-(intOf yv).toNat)
      case atStart=>exact⟨0,s2,Nat.zero_le _,hs2,rfl,HMx,HOx,zA rfl⟩
      case round =>
       obtain⟨y,s3,hy,hs3,rfl,HMy,HOy,HEy⟩:=hrel;clear HMx HOx hcx;by_cases hlty:y<N
       ·have hE:=HEy.out
        rw[JM m true x N y s3 hlty]at hE;have HE3:=zA hE;clear HEy hE;have iy:(y:Int)<(N:Int):=by omega
        have hbw:Below w1.heap.size w1 wr:=HOy.out.below (Nat.le_refl _) (by rw[HGB.out];exact Nat.le_refl _);obtain⟨gm',cm',hv',zGR,hgm,hBr⟩:=(HM.out.below hbw).row hltx;obtain⟨rfl,rfl⟩:gm=gm'/\cm=cm':=by simpa using hv'
        have hmy:=hBr.cell (k:=y) (by rw[nP];exact hlty);rw[Zv m x N y hlty]at hmy;have hcy:=HMy.out.cell (k:=y) (by omega);have hfz:=HMy.out.free y;clear hbw hv' hBr;generalize gs.getD x 0=gx at *;generalize m x y=z at *;cases z
        ·have HE4:Hid (lY m true x (N-(y+1)) (y+1) s3=lY m true x N 0 s2):=HE3.out
         clear HE3;go_wp2_with fail
         go_roundw
         case rel=>exact⟨y+1,s3,by omega,hs3,by go_num,HMy,HOy,HE4⟩
         case measure=>simp[intOf];omega
        ·have HE4:Hid (lY m true x (N-(y+1)) (y+1) (s3.set y true)=lY m true x N 0 s2):=HE3.out
         clear HE3;go_wp2_with fail
         go_roundw
         case rel=>exact⟨y+1,s3.set y true,by omega,by rw[List.length_set];exact hs3,by go_num,zA (HMy.out.set y true),zA (HOy.out.trans (xL.set _ _ _ _)),HE4⟩
         case measure=>simp[intOf];omega
       ·have HE4:Hid (lX m i N (N-(x+1)) (x+1) s3=lX m i N N 0 s):=by
         have h1:=HEy.out;rw[show N-y=0 by omega]at h1;have h2:=HE2.out;rw[<-h1]at h2;exact h2
        clear HEy HE2;go_wp2_with fail
        go_roundw
        case rel=>exact⟨x+1,s3,by omega,hs3,by go_num,HMy,HOy,HE4⟩
        case measure=>simp[intOf];omega
     ·have b1:((x:Int)==(i:Int))=false:=by simp;omega
      cases zz
      ·obtain rfl:fr=false:=by rw[HFv.out,decide_eq_false hxi];rfl
       clear HFv hxi;go_wp2_with fail
       go_loopw [16] (fun yv wr=>∃(y:Nat) (s3:List Bool),y<=N/\s3.length=N/\yv=.int .i64 y/\Hid (xV wr gb s3)/\Hid (xL gb w1 wr)/\Hid (lY m false x (N-y) y s3=lY m false x N 0 s2)) (fun yv _=>N-(intOf yv).toNat)
       case atStart=>exact⟨0,s2,Nat.zero_le _,hs2,rfl,HMx,HOx,zA rfl⟩
       case round =>
        obtain⟨y,s3,hy,hs3,rfl,HMy,HOy,HEy⟩:=hrel;clear HMx HOx hcx;by_cases hlty:y<N
        ·have hE:=HEy.out
         rw[JM m false x N y s3 hlty]at hE;have HE3:=zA hE;clear HEy hE;have iy:(y:Int)<(N:Int):=by omega
         have HE4:Hid (lY m false x (N-(y+1)) (y+1) s3=lY m false x N 0 s2):=HE3.out;clear HE3;go_wp2_with fail
         go_roundw
         case rel=>exact⟨y+1,s3,by omega,hs3,by go_num,HMy,HOy,HE4⟩
         case measure=>simp[intOf];omega
        ·have HE4:Hid (lX m i N (N-(x+1)) (x+1) s3=lX m i N N 0 s):=by
          have h1:=HEy.out;rw[show N-y=0 by omega]at h1;have h2:=HE2.out;rw[<-h1]at h2;exact h2
         clear HEy HE2;go_wp2_with fail
         go_roundw
         case rel=>exact⟨x+1,s3,by omega,hs3,by go_num,HMy,HOy,HE4⟩
         case measure=>simp[intOf];omega
      ·obtain rfl:fr=true:=by rw[HFv.out,Bool.or_true]
       clear HFv hxi;go_wp2_with fail
       go_loopw [16] (fun yv wr=>∃(y:Nat) (s3:List Bool),y<=N/\s3.length=N/\yv=.int .i64 y/\Hid (xV wr gb s3)/\Hid (xL gb w1 wr)/\Hid (lY m true x (N-y) y s3=lY m true x N 0 s2)) (fun yv _=>N-(intOf yv).toNat)
       case atStart=>exact⟨0,s2,Nat.zero_le _,hs2,rfl,HMx,HOx,zA rfl⟩
       case round =>
        obtain⟨y,s3,hy,hs3,rfl,HMy,HOy,HEy⟩:=hrel;clear HMx HOx hcx;by_cases hlty:y<N
        ·have hE:=HEy.out
         rw[JM m true x N y s3 hlty]at hE;have HE3:=zA hE;clear HEy hE;have iy:(y:Int)<(N:Int):=by omega
         have hbw:Below w1.heap.size w1 wr:=HOy.out.below (Nat.le_refl _) (by rw[HGB.out];exact Nat.le_refl _);obtain⟨gm',cm',hv',zGR,hgm,hBr⟩:=(HM.out.below hbw).row hltx;obtain⟨rfl,rfl⟩:gm=gm'/\cm=cm':=by simpa using hv'
         have hmy:=hBr.cell (k:=y) (by rw[nP];exact hlty);rw[Zv m x N y hlty]at hmy;have hcy:=HMy.out.cell (k:=y) (by omega);have hfz:=HMy.out.free y;clear hbw hv' hBr;generalize gs.getD x 0=gx at *;generalize m x y=z at *;cases z
         ·have HE4:Hid (lY m true x (N-(y+1)) (y+1) s3=lY m true x N 0 s2):=HE3.out
          clear HE3;go_wp2_with fail
          go_roundw
          case rel=>exact⟨y+1,s3,by omega,hs3,by go_num,HMy,HOy,HE4⟩
          case measure=>simp[intOf];omega
         ·have HE4:Hid (lY m true x (N-(y+1)) (y+1) (s3.set y true)=lY m true x N 0 s2):=HE3.out
          clear HE3;go_wp2_with fail
          go_roundw
          case rel=>exact⟨y+1,s3.set y true,by omega,by rw[List.length_set];exact hs3,by go_num,zA (HMy.out.set y true),zA (HOy.out.trans (xL.set _ _ _ _)),HE4⟩
          case measure=>simp[intOf];omega
        ·have HE4:Hid (lX m i N (N-(x+1)) (x+1) s3=lX m i N N 0 s):=by
          have h1:=HEy.out;rw[show N-y=0 by omega]at h1;have h2:=HE2.out;rw[<-h1]at h2;exact h2
         clear HEy HE2;go_wp2_with fail
         go_roundw
         case rel=>exact⟨x+1,s3,by omega,hs3,by go_num,HMy,HOy,HE4⟩
         case measure=>simp[intOf];omega
    ·have HE2:Hid (lN m i N (N+1-(n+1)) s2=lN m i N (N+1) (List.replicate N false)):=by
      have h1:=HEx.out;rw[show N-x=0 by omega]at h1;have h2:=HE1.out;rw[<-h1]at h2;exact h2
     clear HEx HE1;go_wp2_with fail
     go_roundw
     case rel=>exact⟨n+1,s2,by omega,hs2,by go_num,HMx,HOx,HE2⟩
     case measure=>simp[intOf];omega
  ·have HE1:Hid (ans=s.getD k false):=by
    have h1:=HEn.out;rw[show N+1-n=0 by omega]at h1;unfold Hid;rw[HL.out,<-h1];rfl
   have hck:=HMn.out.cell (k:=k) (by omega);have ik:(k:Int)<(N:Int):=by omega
   have inN:¬(n:Int)<=(N:Int):=by omega
   have HBf:Hid (Below w.heap.size w wr):=HBl.out.trans (HOn.out.below HBl.out.size (by rw[<-HGB.out];exact HBl.out.size));clear HEn HL;generalize s.getD k false=zk at *;go_wp2_with fail
   go_ret
   exact⟨zE HE1.out.symm,HBf.out⟩
theorem aD(p:Nat->Bool)(N i:Nat)(h:i<N):((List.range N).drop i).any p=(p i || ((List.range N).drop (i+1)).any p):=by
 rw[List.drop_eq_getElem_cons (by simpa using h),List.any_cons,List.getElem_range]
theorem K6(w:World)(a:Option Addr)(cp:Nat)(ls:List zH)(us:List zI)(r:Bool)(h:lV w a us)(hA:yX ls us) :
 Calls Tryz.prog 77 #[.slice a us.length cp,.bool r] w fun e w'=>e=.returned (.bool (dZ us r))/\Below w.heap.size w w':=by
 have zGH:=h.few;have HR:=zA h;have HA:=zA hA;have HH:=zA (Dl w a cp ls us h hA);have HLb:=zA (fun w' (hb:Below w.heap.size w w')=>Uf w' a cp ls us (h.below hb) hA);clear h hA;cases r
 ·have HRg:Hid (dZ us false=wC (kW us false (tY us)) (tY us).length):=rfl
  generalize dZ us false=ans at *
  go_enter Tryz.func77,Tryz.ntmps77
  go_wp2_with fail
  refine HH.out.mono ?_;rintro e w1 ⟨v,rfl,zG1,zG5,hb1⟩;obtain⟨na,nc,rfl,hstr⟩:=oJ zG1 (by omega);have HB1:=zA hb1;have HSt:=zA hstr;clear zG1 hb1 hstr HH HLb;generalize tY us=names at *;go_wp2_with fail
  go_loopw [6] (fun iv wr=>∃(i:Nat),i<=names.length/\iv=.int .i64 i/\Hid (Below w1.heap.size w1 wr)/\Hid (((List.range names.length).drop i).any (fun i=>lO (kW us false names) names.length i i)=ans)) (fun iv _=>names.length-(intOf iv).toNat)
  case atStart=>exact⟨0,Nat.zero_le _,rfl,zA (Below.refl _ _),zA HRg.out.symm⟩
  case round =>
   obtain⟨i,hi,rfl,HB,HE⟩:=hrel;clear HRg;have hbw:Below w.heap.size w wr:=HB1.out.trans (HB.out.mono HB1.out.size);have zGK:=zA hbw;by_cases zFZ:i<names.length
   ·have HLd:=zA (Kj wr a cp ls us false na nc names i i zFZ (HR.out.below hbw) HA.out (HSt.out.below HB.out))
    have hE:=HE.out;rw[aD _ _ i zFZ]at hE;have HE2:=zA hE;clear HE hE hbw;generalize lO (kW us false names) names.length i i=z at *;cases z
    ·have HE3:Hid (((List.range names.length).drop (i+1)).any (fun i=>lO (kW us false names) names.length i i)=ans):=by have:=HE2.out;rw[Bool.false_or]at this;exact this
     clear HE2;go_wp2_with fail
     refine HLd.out.mono ?_;rintro e w2 ⟨rfl,hb2⟩;have HB2:Hid (Below w1.heap.size w1 w2):=HB.out.trans (hb2.mono HB.out.size);clear hb2;go_wp2_with fail
     go_roundw
     case rel=>exact⟨i+1,by omega,by go_num,HB2,HE3⟩
     case measure=>simp[intOf];omega
    ·have HE3:Hid (ans=true):=by have:=HE2.out;rw[Bool.true_or]at this;exact this.symm
     clear HE2;go_wp2_with fail
     refine HLd.out.mono ?_;rintro e w2 ⟨rfl,hb2⟩;have HB2:Hid (Below w.heap.size w w2):=zGK.out.trans (hb2.mono zGK.out.size);clear hb2;go_wp2_with fail
     go_ret
     exact⟨zE HE3.out.symm,HB2.out⟩
   ·have HE3:Hid (ans=false):=by have:=HE.out;rw[List.drop_eq_nil_of_le (by simp;omega)]at this;exact this.symm
    clear HE hbw;go_wp2_with fail
    go_ret
    exact⟨zE HE3.out.symm,zGK.out⟩
 ·have HRg:Hid (dZ us true=wC (kW us true (pZ us)) (pZ us).length):=rfl
  generalize dZ us true=ans at *
  go_enter Tryz.func77,Tryz.ntmps77
  go_wp2_with fail
  refine HH.out.mono ?_;rintro e w0 ⟨v0,rfl,hown0,hlen0,hb0⟩;obtain⟨na0,nc0,rfl,_⟩:=oJ hown0 (by omega);have HB0:=zA hb0;clear hown0 hb0;go_wp2_with fail
  refine(HLb.out _ HB0.out).mono ?_;rintro e w1 ⟨v,rfl,zG1,zG5,hb1⟩;obtain⟨na,nc,rfl,hstr⟩:=oJ zG1 (by omega);have HB1:Hid (Below w.heap.size w w1):=HB0.out.trans (hb1.mono HB0.out.size);have HSt:=zA hstr;clear zG1 hb1 hstr HH HLb HB0;generalize pZ us=names at *;go_wp2_with fail
  go_loopw [6] (fun iv wr=>∃(i:Nat),i<=names.length/\iv=.int .i64 i/\Hid (Below w1.heap.size w1 wr)/\Hid (((List.range names.length).drop i).any (fun i=>lO (kW us true names) names.length i i)=ans)) (fun iv _=>names.length-(intOf iv).toNat)
  case atStart=>exact⟨0,Nat.zero_le _,rfl,zA (Below.refl _ _),zA HRg.out.symm⟩
  case round =>
   obtain⟨i,hi,rfl,HB,HE⟩:=hrel;clear HRg;have hbw:Below w.heap.size w wr:=HB1.out.trans (HB.out.mono HB1.out.size);have zGK:=zA hbw;by_cases zFZ:i<names.length
   ·have HLd:=zA (Kj wr a cp ls us true na nc names i i zFZ (HR.out.below hbw) HA.out (HSt.out.below HB.out))
    have hE:=HE.out;rw[aD _ _ i zFZ]at hE;have HE2:=zA hE;clear HE hE hbw;generalize lO (kW us true names) names.length i i=z at *;cases z
    ·have HE3:Hid (((List.range names.length).drop (i+1)).any (fun i=>lO (kW us true names) names.length i i)=ans):=by have:=HE2.out;rw[Bool.false_or]at this;exact this
     clear HE2;go_wp2_with fail
     refine HLd.out.mono ?_;rintro e w2 ⟨rfl,hb2⟩;have HB2:Hid (Below w1.heap.size w1 w2):=HB.out.trans (hb2.mono HB.out.size);clear hb2;go_wp2_with fail
     go_roundw
     case rel=>exact⟨i+1,by omega,by go_num,HB2,HE3⟩
     case measure=>simp[intOf];omega
    ·have HE3:Hid (ans=true):=by have:=HE2.out;rw[Bool.true_or]at this;exact this.symm
     clear HE2;go_wp2_with fail
     refine HLd.out.mono ?_;rintro e w2 ⟨rfl,hb2⟩;have HB2:Hid (Below w.heap.size w w2):=zGK.out.trans (hb2.mono zGK.out.size);clear hb2;go_wp2_with fail
     go_ret
     exact⟨zE HE3.out.symm,HB2.out⟩
   ·have HE3:Hid (ans=false):=by have:=HE.out;rw[List.drop_eq_nil_of_le (by simp;omega)]at this;exact this.symm
    clear HE hbw;go_wp2_with fail
    go_ret
    exact⟨zE HE3.out.symm,zGK.out⟩
end Go.Proofs.YtnbpdffdnphbeaaGreatDoor
