import Derived.Test.YtnbpdffdnphbeaaGreatDoorDHolds
set_option maxHeartbeats 4000000
set_option maxRecDepth 100000
namespace Go.Proofs.YtnbpdffdnphbeaaGreatDoor
open Go.RowKit
def VW(w:World)(a:Option Addr)(ts:zJ):Prop:=ts=[]\/∃g,a=some ⟨g,0,none⟩/\qT w g 0 ts
theorem VW.below{w w':World}{a:Option Addr}{ts:zJ}(h:VW w a ts)(hb:Below w.heap.size w w'):VW w' a ts:=by
 rcases h with h|⟨g,h1,h2⟩
 ·exact .inl h
 ·exact .inr ⟨g,h1,h2.below' hb⟩
theorem VW.tok{w:World}{a:Option Addr}{ts:zJ}(h:VW w a ts){i:Nat}(hi:i<ts.length):∃g,a=some ⟨g,0,none⟩/\∀j,j<ts.length->w.cell? ⟨g,j*3,none⟩=some (.string ⟨(tA ts j).toArray⟩)/\w.cell? ⟨g,j*3+2,none⟩=some (.string ⟨(cA ts j).toArray⟩):=by
 rcases h with h|⟨g,h1,h2⟩
 ·rw[h]at hi;simp at hi
 ·refine⟨g,h1,fun j hj=>?_⟩
  have:=h2.tok hj;rw[Nat.zero_add]at this;exact this
def B6:Bs:=[121,101,115]
def nN(ts line:zJ)(i:Nat)(st:Nat × Int × Bool):Nat × Int × Bool :=
 if tA ts i=tA line 1 then
  (if cA line 0=xB then (st.1+1,(if tA ts (i+2)=B6 then 1 else 0),st.2.2&&decide (cA ts (i+2)=yP))
   else (st.1+1,xH 0 (tA ts (i+2)),st.2.2&&(decide (cA ts (i+2)=zV)&&(decide (xH 0 (tA line 2)<=xH 0 (tA ts (i+2)))&&decide (xH 0 (tA ts (i+2))<=xH 0 (tA line 4))))))
 else st
def eI(ts line:zJ):Nat->Nat->Nat × Int × Bool->Nat × Int × Bool
 | 0,_,st=>st
 | n+1,i,st=>if i+3<ts.length then eI ts line n (i+4) (nN ts line i st) else st
def qI(ts line:zJ):Nat × Int × Bool:=eI ts line (ts.length+1) 0 (0,0,true)
theorem zp{a a' b b':Int}{c c':Bool}(h1:a=a')(h2:b=b')(h3:c=c'):Ending.returned (.tuple #[.int .i64 a,.int .i64 b,.bool c])=.returned (.tuple #[.int .i64 a',.int .i64 b',.bool c']):=by rw[h1,h2,h3]
def zD2(line:zJ):Prop:=2<=line.length/\(cA line 0≠xB->5<=line.length/\(tA line 2).length<=4/\(tA line 4).length<=4)
theorem zDB(w:World)(ta:Option Addr)(tc:Nat)(ts:zJ)(g o cu:Nat)(line:zJ)(ht:VW w ta ts)(hs:qT w g o line)(zGM:ts.length<=300)(hln:line.length<=10000)(zGF:zD2 line)(h4:∀i,i<ts.length->i%4=2->(tA ts i).length<=4) :
 Calls Tryz.prog 115 #[.slice ta ts.length tc,.slice (some ⟨g,o,none⟩) line.length cu] w fun e w'=>e=.returned (.tuple #[.int .i64 ((qI ts line).1:Nat),.int .i64 (qI ts line).2.1,.bool (qI ts line).2.2])/\Below w.heap.size w w':=by
 have HT:=zA ht;have HS:=zA hs;have H4:=zA h4;have HIn:=zA zGF.2;have h2l:=zGF.1;clear ht hs h4 zGF
 go_enter Tryz.func115,Tryz.ntmps115
 go_wp2_with fail
 go_loopw [7,8,9,10] (fun sv nv kv iv wr=>∃(j seen:Nat) (n:Int) (ok:Bool),4*j<=ts.length+3/\seen<=j/\sv=.int .i64 seen/\nv=.int .i64 n/\kv=.bool ok/\iv=.int .i64 ((4*j:Nat):Int)/\Hid (Below w.heap.size w wr)/\Hid (eI ts line (ts.length+1-j) (4*j) (seen,n,ok)=qI ts line)) (fun _ _ _ iv _=>ts.length+8-(intOf iv).toNat)
 case atStart=>exact⟨0,0,0,true,Nat.zero_le _,Nat.le_refl _,rfl,rfl,rfl,rfl,zA (Below.refl _ _),zA rfl⟩
 case round =>
  obtain⟨j,seen,n,ok,hj,hsn,rfl,rfl,rfl,rfl,HB,HE⟩:=hrel;by_cases zFY:4*j+3<ts.length
  ·obtain⟨gt,rfl,hct⟩:=(HT.out.below HB.out).tok (show 4*j<ts.length by omega)
   have zG3:=HS.out.below' HB.out;have c0:=(hct (4*j) (by omega)).1;have c2:=(hct (4*j+2) (by omega)).1;have c2':=(hct (4*j+2) (by omega)).2;have d1:=(zG3.tok (show 1<line.length by omega)).1;have d0:=(zG3.tok (show 0<line.length by omega)).2;rw[Nat.one_mul]at d1;rw[Nat.zero_mul,Nat.add_zero]at d0;have hE:=HE.out;rw[show ts.length+1-j=(ts.length+1-(j+1))+1 by omega,eI,if_pos zFY,show 4*j+4=4*(j+1) by omega]at hE;have HE2:=zA hE;have il1:(1:Int)<(line.length:Int):=by omega
   have il0:(0:Int)<(line.length:Int):=by omega
   have ij:((4*j:Nat):Int)<(ts.length:Int):=by omega
   clear hct HE hE;by_cases k1:tA ts (4*j)=tA line 1
   ·by_cases k2:cA line 0=xB
    ·have HE3:Hid (eI ts line (ts.length+1-(j+1)) (4*(j+1)) (seen+1,(if tA ts (4*j+2)=B6 then 1 else 0),ok&&decide (cA ts (4*j+2)=yP))=qI ts line):=by have:=HE2.out;unfold nN at this;rw[if_pos k1,if_pos k2]at this;exact this
     rw[k1]at c0;rw[k2]at d0;simp only[xB]at d0;clear k1 k2 HE2;generalize tA line 1=y at *;generalize cA ts (4*j+2)=cv at *;generalize tA ts (4*j+2)=tv at *;have hYes:(tv==[121,101,115])=decide (tv=B6):=by unfold B6;rw[Bool.eq_iff_iff];simp
     have hNam:(cv==[78,65,77,69])=decide (cv=yP):=by unfold yP;rw[Bool.eq_iff_iff];simp
     by_cases k3:tv=B6
     ·rw[if_pos k3]at HE3
      have by':(tv==[121,101,115])=true:=by rw[hYes,decide_eq_true k3]
      clear hYes k3;cases ok
      ·simp only[Bool.false_and]at HE3
       clear hNam;go_wp2_with fail
       go_quiet (fail)
       go_wp2_with fail
       go_roundw
       case rel=>exact⟨j+1,seen+1,1,false,by omega,by omega,by go_num,rfl,rfl,by go_num,zA (yE HB.out _),HE3⟩
       case measure=>simp[intOf];omega
      ·simp only[Bool.true_and]at HE3
       rw[<-hNam]at HE3;clear hNam;go_wp2_with fail
       go_quiet (fail)
       go_wp2_with fail
       go_roundw
       case rel=>exact⟨j+1,seen+1,1,(cv==[78,65,77,69]),by omega,by omega,by go_num,rfl,rfl,by go_num,zA (yE HB.out _),HE3⟩
       case measure=>simp[intOf];omega
     ·rw[if_neg k3]at HE3
      have by':(tv==[121,101,115])=false:=by rw[hYes,decide_eq_false k3]
      clear hYes k3;cases ok
      ·simp only[Bool.false_and]at HE3
       clear hNam;go_wp2_with fail
       go_quiet (fail)
       go_wp2_with fail
       go_roundw
       case rel=>exact⟨j+1,seen+1,0,false,by omega,by omega,by go_num,rfl,rfl,by go_num,zA (yE HB.out _),HE3⟩
       case measure=>simp[intOf];omega
      ·simp only[Bool.true_and]at HE3
       rw[<-hNam]at HE3;clear hNam;go_wp2_with fail
       go_quiet (fail)
       go_wp2_with fail
       go_roundw
       case rel=>exact⟨j+1,seen+1,0,(cv==[78,65,77,69]),by omega,by omega,by go_num,rfl,rfl,by go_num,zA (yE HB.out _),HE3⟩
       case measure=>simp[intOf];omega
    ·obtain⟨h5,l2,l4⟩:=HIn.out k2
     have HE3:Hid (eI ts line (ts.length+1-(j+1)) (4*(j+1)) (seen+1,xH 0 (tA ts (4*j+2)),ok&&(decide (cA ts (4*j+2)=zV)&&(decide (xH 0 (tA line 2)<=xH 0 (tA ts (4*j+2)))&&decide (xH 0 (tA ts (4*j+2))<=xH 0 (tA line 4)))))=qI ts line):=by have:=HE2.out;unfold nN at this;rw[if_pos k1,if_neg k2]at this;exact this
     have d2:=(zG3.tok (show 2<line.length by omega)).1;have d4:=(zG3.tok (show 4<line.length by omega)).1;rw[show 2*3=6 from rfl]at d2;rw[show 4*3=12 from rfl]at d4;have il2:(2:Int)<(line.length:Int):=by omega
     have il4:(4:Int)<(line.length:Int):=by omega
     have HN1:=zA (fun w=>mP (tA ts (4*j+2)) w (H4.out (4*j+2) (by omega) (by omega)));have HN2:=zA (fun w=>mP (tA line 2) w l2);have HN4:=zA (fun w=>mP (tA line 4) w l4);have bfl:(cA line 0==[102,108,97,103])=false:=by simpa[xB] using k2
     rw[k1]at c0;clear k1 k2 HE2 l2 l4;generalize tA line 1=y at *;generalize tA line 2=lo at *;generalize tA line 4=hi at *;generalize cA line 0=cl at *;generalize cA ts (4*j+2)=cv at *;generalize tA ts (4*j+2)=tv at *;generalize xH 0 tv=vv at *;generalize xH 0 lo=vlo at *;generalize xH 0 hi=vhi at *;cases ok
     ·simp only[Bool.false_and]at HE3
      go_wp2_with fail
      go_quiet (fail)
      go_wp2_with fail
      refine(HN1.out _).mono ?_;rintro e w4 ⟨rfl,hw⟩;obtain rfl:=hw.symm;go_wp2_with fail
      go_roundw
      case rel=>exact⟨j+1,seen+1,vv,false,by omega,by omega,by go_num,rfl,rfl,by go_num,zA (yE HB.out _),HE3⟩
      case measure=>simp[intOf];omega
     ·simp only[Bool.true_and]at HE3
      by_cases k5:cv=zV
      ·rw[decide_eq_true k5,Bool.true_and]at HE3
       rw[k5]at c2';simp only[zV]at c2';clear k5;by_cases k6:vlo<=vv
       ·rw[decide_eq_true k6,Bool.true_and]at HE3
        by_cases k7:vv<=vhi
        ·rw[decide_eq_true k7]at HE3
         go_wp2_with fail
         go_quiet (fail)
         go_wp2_with fail
         refine(HN1.out _).mono ?_;rintro e w4 ⟨rfl,hw⟩;obtain rfl:=hw.symm;go_wp2_with fail
         refine(HN2.out _).mono ?_;rintro e w4 ⟨rfl,hw⟩;obtain rfl:=hw.symm;go_wp2_with fail
         refine(HN4.out _).mono ?_;rintro e w4 ⟨rfl,hw⟩;obtain rfl:=hw.symm;go_wp2_with fail
         go_roundw
         case rel=>exact⟨j+1,seen+1,vv,true,by omega,by omega,by go_num,rfl,rfl,by go_num,zA (yE HB.out _),HE3⟩
         case measure=>simp[intOf];omega
        ·rw[decide_eq_false k7]at HE3
         have k8:decide (vv<=vhi)=false:=decide_eq_false k7;go_wp2_with fail
         go_quiet (fail)
         go_wp2_with fail
         refine(HN1.out _).mono ?_;rintro e w4 ⟨rfl,hw⟩;obtain rfl:=hw.symm;go_wp2_with fail
         refine(HN2.out _).mono ?_;rintro e w4 ⟨rfl,hw⟩;obtain rfl:=hw.symm;go_wp2_with fail
         refine(HN4.out _).mono ?_;rintro e w4 ⟨rfl,hw⟩;obtain rfl:=hw.symm;go_wp2_with fail
         go_roundw
         case rel=>exact⟨j+1,seen+1,vv,false,by omega,by omega,by go_num,rfl,by first|rfl|(rw[k8]),by go_num,zA (yE HB.out _),HE3⟩
         case measure=>simp[intOf];omega
       ·rw[decide_eq_false k6,Bool.false_and]at HE3
        have k8:decide (vlo<=vv)=false:=decide_eq_false k6;go_wp2_with fail
        go_quiet (fail)
        go_wp2_with fail
        refine(HN1.out _).mono ?_;rintro e w4 ⟨rfl,hw⟩;obtain rfl:=hw.symm;go_wp2_with fail
        refine(HN2.out _).mono ?_;rintro e w4 ⟨rfl,hw⟩;obtain rfl:=hw.symm;go_wp2_with fail
        go_roundw
        case rel=>exact⟨j+1,seen+1,vv,false,by omega,by omega,by go_num,rfl,rfl,by go_num,zA (yE HB.out _),HE3⟩
        case measure=>simp[intOf];omega
      ·rw[decide_eq_false k5,Bool.false_and]at HE3
       have b5:(cv==[78,85,77,66,69,82])=false:=by simpa[zV] using k5
       clear k5;go_wp2_with fail
       go_quiet (fail)
       go_wp2_with fail
       refine(HN1.out _).mono ?_;rintro e w4 ⟨rfl,hw⟩;obtain rfl:=hw.symm;go_wp2_with fail
       go_roundw
       case rel=>exact⟨j+1,seen+1,vv,false,by omega,by omega,by go_num,rfl,rfl,by go_num,zA (yE HB.out _),HE3⟩
       case measure=>simp[intOf];omega
   ·have HE3:Hid (eI ts line (ts.length+1-(j+1)) (4*(j+1)) (seen,n,ok)=qI ts line):=by have:=HE2.out;unfold nN at this;rw[if_neg k1]at this;exact this
    have b1:(tA ts (4*j)==tA line 1)=false:=by simpa using k1
    have b2:(tA ts (4*j) != tA line 1)=true:=by simpa using k1
    clear HE2 k1 d0 c2 c2';generalize tA ts (4*j)=x at *;generalize tA line 1=y at *;go_wp2_with fail
    go_quiet (fail)
    go_wp2_with fail
    go_roundw
    case rel=>exact⟨j+1,seen,n,ok,by omega,by omega,by go_num,rfl,rfl,by go_num,zA (yE HB.out _),HE3⟩
    case measure=>simp[intOf];omega
  ·have HE3:Hid ((seen,n,ok)=qI ts line):=by
    have:=HE.out;rw[show ts.length+1-j=(ts.length+1-(j+1))+1 by omega,eI,if_neg zFY]at this;exact this
   clear HE;go_wp2_with fail
   go_ret3
   exact⟨zp (by rw[<-HE3.out]) (by rw[<-HE3.out]) (by rw[<-HE3.out]),HB.out⟩
def rS:Bs:=[121,101,115,32,110,111]
def mJ(ts:zJ)(i:Nat):Bool :=
 if i%4=0 then decide (cA ts i=yP) else if i%4=1 then decide (cA ts i=[61])
 else if i%4=2 then (decide (cA ts i=zV) || (decide (cA ts i=yP)&&xR rS (tA ts i))) else decide (cA ts i=[59])
def jR(ts:zJ):Nat->Nat->Bool
 | 0,_=>decide (ts.length%4=0)
 | n+1,i=>mJ ts i&&jR ts n (i+1)
def qJ(ts:zJ):Bool:=jR ts ts.length 0
theorem K1(ts:zJ)(i:Nat)(h:i<ts.length):jR ts (ts.length-i) i=(mJ ts i&&jR ts (ts.length-(i+1)) (i+1)):=by
 rw[show ts.length-i=(ts.length-(i+1))+1 by omega,jR]
theorem zd(w:World)(ta:Option Addr)(tc:Nat)(ts:zJ)(ht:VW w ta ts)(zGM:ts.length<=300) :
 Calls Tryz.prog 114 #[.slice ta ts.length tc] w fun e w'=>e=.returned (.bool (qJ ts))/\w'=w:=by
 have HT:=zA ht;clear ht
 go_enter Tryz.func114,Tryz.ntmps114
 go_wp2_with fail
 go_loop [3] (fun iv=>∃(i:Nat),i<=ts.length/\iv=.int .i64 i/\Hid (jR ts (ts.length-i) i=qJ ts)) (fun iv=>ts.length-(intOf iv).toNat)
 case atStart=>exact⟨0,Nat.zero_le _,rfl,zA rfl⟩
 case round =>
  obtain⟨i,hi,rfl,HE⟩:=hrel;by_cases zFY:i<ts.length
  ·obtain⟨gt,rfl,hct⟩:=HT.out.tok zFY
   have c0:=(hct i zFY).1;have c2:=(hct i zFY).2;have hE:=HE.out;rw[K1 ts i zFY]at hE;have HE2:=zA hE;have HAm:Hid (∀w:World,Calls Tryz.prog 180 #[.string ⟨#[121,101,115,32,110,111]⟩,.string ⟨(tA ts i).toArray⟩] w fun e w'=>e=.returned (.bool (xR rS (tA ts i)))/\w'=w):=fun w=>dX rS _ w (by decide);clear hct HE hE;by_cases k0:i%4=0
   ·by_cases k9:cA ts i=yP
    ·have HE3:Hid (jR ts (ts.length-(i+1)) (i+1)=qJ ts):=by have:=HE2.out;unfold mJ at this;rw[if_pos k0,decide_eq_true k9,Bool.true_and]at this;exact this
     have b1:(cA ts i==[78,65,77,69])=true:=by rw[k9];rfl
     clear HE2 k9 HAm;generalize cA ts i=cl at *;go_wp2_with fail
     go_round
     case rel=>exact⟨i+1,by omega,by go_num,HE3⟩
     case measure=>simp[intOf];omega
    ·have HE3:Hid (qJ ts=false):=by have:=HE2.out;unfold mJ at this;rw[if_pos k0,decide_eq_false k9,Bool.false_and]at this;exact this.symm
     have b1:(cA ts i==[78,65,77,69])=false:=by simpa[yP] using k9
     clear HE2 k9 HAm;generalize cA ts i=cl at *;go_wp2_with fail
     go_ret
     exact⟨zE HE3.out.symm,rfl⟩
   by_cases k1:i%4=1
   ·by_cases k9:cA ts i=[61]
    ·have HE3:Hid (jR ts (ts.length-(i+1)) (i+1)=qJ ts):=by have:=HE2.out;unfold mJ at this;rw[if_neg k0,if_pos k1,decide_eq_true k9,Bool.true_and]at this;exact this
     have b1:(cA ts i==[61])=true:=by rw[k9];rfl
     clear HE2 k9 HAm;generalize cA ts i=cl at *;go_wp2_with fail
     go_round
     case rel=>exact⟨i+1,by omega,by go_num,HE3⟩
     case measure=>simp[intOf];omega
    ·have HE3:Hid (qJ ts=false):=by have:=HE2.out;unfold mJ at this;rw[if_neg k0,if_pos k1,decide_eq_false k9,Bool.false_and]at this;exact this.symm
     have b1:(cA ts i==[61])=false:=by simpa using k9
     clear HE2 k9 HAm;generalize cA ts i=cl at *;go_wp2_with fail
     go_ret
     exact⟨zE HE3.out.symm,rfl⟩
   by_cases k2:i%4=2
   ·have e1:mJ ts i=(decide (cA ts i=zV) || (decide (cA ts i=yP)&&xR rS (tA ts i))):=by unfold mJ;rw[if_neg k0,if_neg k1,if_pos k2]
    rw[e1]at HE2;clear e1;generalize xR rS (tA ts i)=am at *;by_cases k9:cA ts i=zV
    ·have HE3:Hid (jR ts (ts.length-(i+1)) (i+1)=qJ ts):=by have:=HE2.out;rw[decide_eq_true k9]at this;simpa[Hid] using this
     have b1:(cA ts i==[78,85,77,66,69,82])=true:=by rw[k9];rfl
     clear HE2 k9 HAm;generalize cA ts i=cl at *;go_wp2_with fail
     go_round
     case rel=>exact⟨i+1,by omega,by go_num,HE3⟩
     case measure=>simp[intOf];omega
    have b0:(cA ts i==[78,85,77,66,69,82])=false:=by simpa[zV] using k9
    rw[decide_eq_false k9,Bool.false_or]at HE2;by_cases k8:cA ts i=yP
    ·have b1:(cA ts i==[78,65,77,69])=true:=by rw[k8];rfl
     rw[decide_eq_true k8,Bool.true_and]at HE2;clear k8 k9;generalize cA ts i=cl at *;cases am
     ·have HE3:Hid (qJ ts=false):=by have:=HE2.out;rw[Bool.false_and]at this;exact this.symm
      go_wp2_with fail
      refine(HAm.out _).mono ?_;rintro e w' ⟨rfl,hw⟩;obtain rfl:=hw.symm;go_wp2_with fail
      go_ret
      exact⟨zE HE3.out.symm,rfl⟩
     ·have HE3:Hid (jR ts (ts.length-(i+1)) (i+1)=qJ ts):=by have:=HE2.out;rw[Bool.true_and]at this;exact this
      go_wp2_with fail
      refine(HAm.out _).mono ?_;rintro e w' ⟨rfl,hw⟩;obtain rfl:=hw.symm;go_wp2_with fail
      go_round
      case rel=>exact⟨i+1,by omega,by go_num,HE3⟩
      case measure=>simp[intOf];omega
    ·have HE3:Hid (qJ ts=false):=by have:=HE2.out;rw[decide_eq_false k8,Bool.false_and,Bool.false_and]at this;exact this.symm
     have b1:(cA ts i==[78,65,77,69])=false:=by simpa[yP] using k8
     clear HE2 k8 k9 HAm;generalize cA ts i=cl at *;go_wp2_with fail
     go_ret
     exact⟨zE HE3.out.symm,rfl⟩
   ·have k3:i%4=3:=by omega
    by_cases k9:cA ts i=[59]
    ·have HE3:Hid (jR ts (ts.length-(i+1)) (i+1)=qJ ts):=by have:=HE2.out;unfold mJ at this;rw[if_neg k0,if_neg k1,if_neg k2,decide_eq_true k9,Bool.true_and]at this;exact this
     have b1:(cA ts i==[59])=true:=by rw[k9];rfl
     clear HE2 k9 HAm;generalize cA ts i=cl at *;go_wp2_with fail
     go_round
     case rel=>exact⟨i+1,by omega,by go_num,HE3⟩
     case measure=>simp[intOf];omega
    ·have HE3:Hid (qJ ts=false):=by have:=HE2.out;unfold mJ at this;rw[if_neg k0,if_neg k1,if_neg k2,decide_eq_false k9,Bool.false_and]at this;exact this.symm
     have b1:(cA ts i==[59])=false:=by simpa using k9
     clear HE2 k9 HAm;generalize cA ts i=cl at *;go_wp2_with fail
     go_ret
     exact⟨zE HE3.out.symm,rfl⟩
  ·have HE3:Hid (qJ ts=decide (ts.length%4=0)):=by have:=HE.out;rw[show ts.length-i=0 by omega]at this;exact this.symm
   clear HE;by_cases k0:ts.length%4=0
   ·have HE4:Hid (qJ ts=true):=by rw[HE3.out,decide_eq_true k0];rfl
    have b1:((ts.length:Int)%4==0)=true:=by simpa using (by omega:(ts.length:Int)%4=0)
    go_wp2_with fail
    go_ret
    exact⟨zE HE4.out.symm,rfl⟩
   ·have HE4:Hid (qJ ts=false):=by rw[HE3.out,decide_eq_false k0];rfl
    have b1:((ts.length:Int)%4==0)=false:=by simpa using (by omega:¬(ts.length:Int)%4=0)
    go_wp2_with fail
    go_ret
    exact⟨zE HE4.out.symm,rfl⟩
def jN(us:List zJ)(ts:zJ):Nat->Nat->List Int->Option (List Int)
 | 0,_,acc=>some acc
 | n+1,i,acc =>
   if cA (uA us i) 0=vE\/cA (uA us i) 0=xB then
    (if (qI ts (uA us i)).1=1/\(qI ts (uA us i)).2.2=true then jN us ts n (i+1) (acc++[(qI ts (uA us i)).2.1]) else none)
   else jN us ts n (i+1) acc
def dB(us:List zJ)(ins:Nat)(f:Bs):List Int × Int :=
 if 300<f.length then ([],1)
 else if qJ (zP f 0)=false then ([],2)
 else match jN us (zP f 0) us.length 0 [] with
  | none=>([],10)
  | some L=>if 4*ins=(zP f 0).length then (L,0) else ([],10)
theorem V2(us:List zJ)(ts:zJ)(i:Nat)(acc:List Int)(h:i<us.length):jN us ts (us.length-i) i acc=(if cA (uA us i) 0=vE\/cA (uA us i) 0=xB then
 (if (qI ts (uA us i)).1=1/\(qI ts (uA us i)).2.2=true then jN us ts (us.length-(i+1)) (i+1) (acc++[(qI ts (uA us i)).2.1]) else none)
 else jN us ts (us.length-(i+1)) (i+1) acc):=by
 rw[show us.length-i=(us.length-(i+1))+1 by omega,jN]
theorem Dl{s:Bs}(h:xR rS s=true):s.length<=4:=by
 rw[dW,show cT rS (rS.length+1) 0 0=[[121,101,115],[110,111]] by decide]at h;have:=of_decide_eq_true h;simp only[List.mem_cons,List.not_mem_nil,or_false]at this;rcases this with rfl|rfl <;> decide
theorem Q3{ts:zJ}{n:Nat}:∀ {i:Nat},jR ts n i=true->∀k,i<=k->k<i+n->mJ ts k=true:=by
 induction n with
 | zero=>intro i _ k h1 h2;omega
 | succ n ih =>
   intro i h k h1 h2;rw[jR,Bool.and_eq_true]at h;rcases Nat.lt_or_ge i k with h3|h3
   ·exact ih h.2 k h3 (by omega)
   ·obtain rfl:k=i:=by omega
    exact h.1
theorem U7{ts:zJ}(h:qJ ts=true)(i:Nat)(hi:i<ts.length)(h2:i%4=2):(tA ts i).length<=4:=by
 have:=Q3 h i (Nat.zero_le _) (by omega);unfold mJ at this;rw[if_neg (by omega),if_neg (by omega),if_pos h2,Bool.or_eq_true,Bool.and_eq_true]at this;rcases this with h|h
 ·exact jQ (of_decide_eq_true h)
 ·exact Dl h.2
theorem zE6{x:zH}{u:zJ}(h:LT x u)(hk:cA u 0=vE\/cA u 0=xB):zD2 u:=by
 refine⟨h.two,fun hf=>?_⟩;rcases h.kind with ⟨_,_,h5,h2,h4,_⟩|⟨_,k2⟩|⟨_,k2,_⟩|⟨_,k2,_⟩
 ·exact⟨h5,jQ h2,jQ h4⟩
 ·exact absurd k2 hf
 ·rcases hk with e|e <;> (rw[k2]at e;exact absurd e (by decide))
 ·rcases hk with e|e <;> (rw[k2]at e;exact absurd e (by decide))
theorem sA{v:Value}{a b:Int}(h:a=b):Ending.returned (.tuple #[v,.int .i64 a])=.returned (.tuple #[v,.int .i64 b]):=by rw[h]
theorem uj:(Tryz.prog.info? 3).map (fun i=>(i.zero,i.size,i.bytes))=some (some (.int .i64 0),1,8):=by kernel_rfl
theorem aT(a b:List Int):vS (a++b)=vS a++vS b:=by simp[vS]
theorem zCJ(w:World)(b:Nat)(ls:List zH)(us:List zJ)(names:List Bs)(ins:Nat)(rs:List RX)(f:Bs)(hB:aL w b us names ins rs)(hA:yY ls us)(zGN:f.length<=maxLen)(zGA:ins<=10000) :
 Calls Tryz.prog 67 #[.pointer (some ⟨b,0,none⟩),.string ⟨f.toArray⟩] w fun e w'=>∃v,e=.returned (.tuple #[v,.int .i64 (dB us ins f).2])/\w'.ownsRow w.heap.size 3 1 v (dB us ins f).1.length (vS (dB us ins f).1)/\(dB us ins f).1.length<=us.length/\Below w.heap.size w w':=by
 obtain⟨i0,hi0,hz0,hz1,hz2⟩:=info_parts uj;obtain⟨la,lc,hl0,zGQ⟩:=hB.lines;have hi2:=hB.ins;have HRw:=zA zGQ;have zGG:=zGQ.few;have hbl:=yT hl0;have HA:=zA hA;by_cases h3:300<f.length
 ·have HR:Hid (dB us ins f=([],1)):=by unfold Hid dB;rw[if_pos h3]
  clear hB zGQ hA;generalize dB us ins f=ans at *;unfold maxLen at zGN
  go_enter Tryz.func67,Tryz.ntmps67
  go_wp2_with fail
  go_ret2
  exact⟨_,sA (by rw[HR.out]),by rw[HR.out];exact World.ownsRow_nil _ _ _ _,by rw[HR.out];exact Nat.zero_le _,Below.refl _ _⟩
 have HTk:=zA (fun w=>iP f w (by omega));have zGM:=uU f 0;have HSh4:=zA (fun (h:qJ (zP f 0)=true)=>U7 h)
 have HR:Hid (dB us ins f=if qJ (zP f 0)=false then (([],2):List Int × Int) else match jN us (zP f 0) us.length 0 [] with
  | none=>([],10)
  | some L=>if 4*ins=(zP f 0).length then (L,0) else ([],10)):=by unfold Hid dB;rw[if_neg h3]
 have hf3:f.length<=300:=by omega
 clear hB zGQ hA zGN h3;generalize dB us ins f=ans at *;generalize zP f 0=ts at *
 go_enter Tryz.func67,Tryz.ntmps67
 go_wp2_with fail
 refine(HTk.out w).mono ?_;rintro e w1 ⟨v1,rfl,zG1,hb1⟩
 obtain⟨ta,tc,rfl,zG3⟩:∃a c,v1=.slice a ts.length c/\VW w1 a ts:=by
  rcases Xf zG1 with ⟨h1,h2⟩|⟨g,cap,h1,_,_,_,_,h2⟩
  ·exact⟨none,0,by rw[h1,h2];rfl,.inl h2⟩
  ·exact⟨_,_,h1,.inr ⟨g,rfl,h2⟩⟩
 have HSg:=zA zG3;have HB1:=zA hb1;have hs1:=hb1.size;have hl1:w1.cell? ⟨b,0,none⟩=some (.slice la us.length lc):=by rw[hb1.cell (p:=⟨b,0,none⟩) hbl];exact hl0
 have hi1:w1.cell? ⟨b,2,none⟩=some (.int .i64 (ins:Int)):=by rw[hb1.cell (p:=⟨b,2,none⟩) hbl];exact hi2
 have hbl1:=yT hl1;have HR1:=zA (HRw.out.below hb1);clear zG1 zG3 hb1 HTk;go_wp2_with fail
 refine(zd w1 ta tc ts HSg.out (by omega)).mono ?_;rintro e w' ⟨rfl,hw⟩;obtain rfl:=hw.symm;cases hsh:qJ ts
 ·have HR2:Hid (ans=([],2)):=by rw[HR.out,hsh];exact if_pos rfl
  clear HR HSh4 hsh;go_wp2_with fail
  go_ret2
  exact⟨_,sA (by rw[HR2.out]),by rw[HR2.out];exact World.ownsRow_nil _ _ _ _,by rw[HR2.out];exact Nat.zero_le _,HB1.out⟩
 ·have HR2:Hid (ans=match jN us ts us.length 0 [] with
   | none=>([],10)
   | some L=>if 4*ins=ts.length then (L,0) else ([],10)):=by rw[HR.out,hsh];exact if_neg (by decide)
  have H4:=zA (HSh4.out hsh);clear HR HSh4 hsh;go_wp2_with fail
  go_loopw [8,9] (fun ov iv wr=>∃(i:Nat) (acc:List Int),i<=us.length/\acc.length<=i/\iv=.int .i64 i/\Hid (wr.ownsRow w1.heap.size 3 1 ov acc.length (vS acc))/\Hid (Below w1.heap.size w1 wr)/\Hid (jN us ts (us.length-i) i acc=jN us ts us.length 0 [])) (fun _ iv _=>us.length-(intOf iv).toNat)
  case atStart=>exact⟨0,[],Nat.zero_le _,Nat.le_refl _,rfl,zA (World.ownsRow_nil _ _ _ _),zA (Below.refl _ _),zA rfl⟩
  case round =>
   obtain⟨i,acc,hi,hacc,rfl,HO,HB,HE⟩:=hrel;have hlr:wr.cell? ⟨b,0,none⟩=some (.slice la us.length lc):=by rw[HB.out.cell (p:=⟨b,0,none⟩) hbl1];exact hl1
   have hir:wr.cell? ⟨b,2,none⟩=some (.int .i64 (ins:Int)):=by rw[HB.out.cell (p:=⟨b,2,none⟩) hbl1];exact hi1
   have zGK:=HB.out.size;obtain⟨oa,oc,rfl⟩:=vN HO.out;by_cases zFY:i<us.length
   ·obtain⟨gl,g,o,cu,rfl,zGH,zG3,hlc,hcm,hsm⟩:=(HR1.out.below HB.out).at zFY
    have hx:=HA.out.get i zFY;have h2:=hx.two;have hc0:=(zG3.tok (show 0<(uA us i).length by omega)).2;rw[Nat.zero_mul,Nat.add_zero]at hc0;have il0:(0:Int)<((uA us i).length:Int):=by omega
    have hE:=HE.out;rw[V2 us ts i acc zFY]at hE;have HE2:=zA hE;clear HE hE;by_cases k1:cA (uA us i) 0=vE\/cA (uA us i) 0=xB
    ·have HTo:=zA (zDB wr ta tc ts g o cu (uA us i) (HSg.out.below HB.out) zG3 (by omega) hsm (zE6 hx k1) H4.out)
     rw[if_pos k1]at HE2;clear hx zG3;generalize qI ts (uA us i)=td at *;obtain⟨seen,nn,ok⟩:=td;simp only at HTo HE2
     have zGL:(cA (uA us i) 0=vE)\/(¬cA (uA us i) 0=vE/\cA (uA us i) 0=xB):=by
      rcases k1 with h|h
      ·exact .inl h
      ·by_cases h':cA (uA us i) 0=vE
       ·exact .inl h'
       ·exact .inr ⟨h',h⟩
     clear k1;by_cases k3:seen=1/\ok=true
     ·obtain⟨rfl,rfl⟩:=k3
      have HE3:Hid (jN us ts (us.length-(i+1)) (i+1) (acc++[nn])=jN us ts us.length 0 []):=by have:=HE2.out;rw[if_pos ⟨rfl,rfl⟩]at this;exact this
      clear HE2;rcases zGL with zGL|⟨-,zGL⟩
      ·rw[zGL]at hc0
       simp only[vE]at hc0;go_wp2_with fail
       refine HTo.out.mono ?_;rintro e w4 ⟨rfl,hb4⟩;have HB4:Hid (Below w1.heap.size w1 w4):=HB.out.trans (hb4.mono zGK);have HO4:=zA (uV HO.out hb4);have hs4:w1.heap.size<=w4.heap.size:=HB4.out.size;clear hb4
       go_wp2_with (at_builtin;refine wpList_append_own _ rfl _ _ 59 rfl w1.heap.size 3 i0 _ 1 8 Tryz.underlying59 hi0 hz0 hz1 hz2 rfl (by decide) _ _ _ rfl (HO4.out.alloc _) ⟨w4.heap.size,0,none⟩ 1 1 [.int .i64 nn] rfl rfl (xI _ _ _ _ rfl) ?c2 ?c3 ?c4 ?c5 ?_)
       case c2=>first|rfl|(intro u hu;simp at hu;subst hu;rfl)
       case c3=>unfold maxLen;omega
       case c4=>omega
       case c5=>first|omega|(simp;omega)
       intro v' w5 zGC zG5 _;have HB5:Hid (Below w1.heap.size w1 w5):=(HB4.out.alloc hs4 _).grown zG5 (by simp;omega) (zZ HO4.out);have HO5:Hid (w5.ownsRow w1.heap.size 3 1 v' (acc++[nn]).length (vS (acc++[nn]))):=by unfold Hid;rw[aT,List.length_append];exact zGC
       clear zGC zG5;go_wp2_with fail
       go_roundw
       case rel=>exact⟨i+1,acc++[nn],by omega,by simp;omega,by go_num,HO5,HB5,HE3⟩
       case measure=>simp[intOf];omega
      ·rw[zGL]at hc0
       simp only[xB]at hc0;go_wp2_with fail
       refine HTo.out.mono ?_;rintro e w4 ⟨rfl,hb4⟩;have HB4:Hid (Below w1.heap.size w1 w4):=HB.out.trans (hb4.mono zGK);have HO4:=zA (uV HO.out hb4);have hs4:w1.heap.size<=w4.heap.size:=HB4.out.size;clear hb4
       go_wp2_with (at_builtin;refine wpList_append_own _ rfl _ _ 59 rfl w1.heap.size 3 i0 _ 1 8 Tryz.underlying59 hi0 hz0 hz1 hz2 rfl (by decide) _ _ _ rfl (HO4.out.alloc _) ⟨w4.heap.size,0,none⟩ 1 1 [.int .i64 nn] rfl rfl (xI _ _ _ _ rfl) ?c2 ?c3 ?c4 ?c5 ?_)
       case c2=>first|rfl|(intro u hu;simp at hu;subst hu;rfl)
       case c3=>unfold maxLen;omega
       case c4=>omega
       case c5=>first|omega|(simp;omega)
       intro v' w5 zGC zG5 _;have HB5:Hid (Below w1.heap.size w1 w5):=(HB4.out.alloc hs4 _).grown zG5 (by simp;omega) (zZ HO4.out);have HO5:Hid (w5.ownsRow w1.heap.size 3 1 v' (acc++[nn]).length (vS (acc++[nn]))):=by unfold Hid;rw[aT,List.length_append];exact zGC
       clear zGC zG5;go_wp2_with fail
       go_roundw
       case rel=>exact⟨i+1,acc++[nn],by omega,by simp;omega,by go_num,HO5,HB5,HE3⟩
       case measure=>simp[intOf];omega
     ·have HE3:Hid (jN us ts us.length 0 []=none):=by have:=HE2.out;rw[if_neg k3]at this;exact this.symm
      have HR3:Hid (ans=([],10)):=by have:=HR2.out;rw[HE3.out]at this;exact this
      clear HE2 HE3 HR2;by_cases k5:seen=1
      ·obtain rfl:ok=false:=by cases ok;rfl;exact absurd ⟨k5,rfl⟩ k3
       subst k5;clear k3;rcases zGL with zGL|⟨-,zGL⟩
       ·rw[zGL]at hc0
        simp only[vE]at hc0;go_wp2_with fail
        refine HTo.out.mono ?_;rintro e w4 ⟨rfl,hb4⟩;have HB4:Hid (Below w1.heap.size w1 w4):=HB.out.trans (hb4.mono zGK);clear hb4;go_wp2_with fail
        go_ret2
        exact⟨_,sA (by rw[HR3.out]),by rw[HR3.out];exact World.ownsRow_nil _ _ _ _,by rw[HR3.out];exact Nat.zero_le _,HB1.out.trans (HB4.out.mono hs1)⟩
       ·rw[zGL]at hc0
        simp only[xB]at hc0;go_wp2_with fail
        refine HTo.out.mono ?_;rintro e w4 ⟨rfl,hb4⟩;have HB4:Hid (Below w1.heap.size w1 w4):=HB.out.trans (hb4.mono zGK);clear hb4;go_wp2_with fail
        go_ret2
        exact⟨_,sA (by rw[HR3.out]),by rw[HR3.out];exact World.ownsRow_nil _ _ _ _,by rw[HR3.out];exact Nat.zero_le _,HB1.out.trans (HB4.out.mono hs1)⟩
      ·have b5:(((seen:Nat):Int) != 1)=true:=by simpa using (by omega:¬(seen:Int)=1)
       have b6:(((seen:Nat):Int)==1)=false:=by simpa using (by omega:¬(seen:Int)=1)
       clear k3 k5;rcases zGL with zGL|⟨-,zGL⟩
       ·rw[zGL]at hc0
        simp only[vE]at hc0;go_wp2_with fail
        refine HTo.out.mono ?_;rintro e w4 ⟨rfl,hb4⟩;have HB4:Hid (Below w1.heap.size w1 w4):=HB.out.trans (hb4.mono zGK);clear hb4;go_wp2_with fail
        go_ret2
        exact⟨_,sA (by rw[HR3.out]),by rw[HR3.out];exact World.ownsRow_nil _ _ _ _,by rw[HR3.out];exact Nat.zero_le _,HB1.out.trans (HB4.out.mono hs1)⟩
       ·rw[zGL]at hc0
        simp only[xB]at hc0;go_wp2_with fail
        refine HTo.out.mono ?_;rintro e w4 ⟨rfl,hb4⟩;have HB4:Hid (Below w1.heap.size w1 w4):=HB.out.trans (hb4.mono zGK);clear hb4;go_wp2_with fail
        go_ret2
        exact⟨_,sA (by rw[HR3.out]),by rw[HR3.out];exact World.ownsRow_nil _ _ _ _,by rw[HR3.out];exact Nat.zero_le _,HB1.out.trans (HB4.out.mono hs1)⟩
    ·have HE3:Hid (jN us ts (us.length-(i+1)) (i+1) acc=jN us ts us.length 0 []):=by have:=HE2.out;rw[if_neg k1]at this;exact this
     have b1:(cA (uA us i) 0==[110,117,109])=false:=by simpa[vE] using fun h=>k1 (.inl h)
     have b2:(cA (uA us i) 0==[102,108,97,103])=false:=by simpa[xB] using fun h=>k1 (.inr h)
     clear HE2 k1 hx zG3;generalize cA (uA us i) 0=cl at *;go_wp2_with fail
     go_roundw
     case rel=>exact⟨i+1,acc,by omega,by omega,by go_num,HO,HB,HE3⟩
     case measure=>simp[intOf];omega
   ·have HE3:Hid (jN us ts us.length 0 []=some acc):=by have:=HE.out;rw[show us.length-i=0 by omega]at this;exact this.symm
    rw[HE3.out]at HR2;clear HE;by_cases k4:4*ins=ts.length
    ·have HR3:Hid (ans=(acc,0)):=by have:=HR2.out;simp only[if_pos k4]at this;exact this
     have b4:((4*(ins:Int)) != (ts.length:Int))=false:=by simpa using (by omega:(4*(ins:Int))=(ts.length:Int))
     have b5:((4*(ins:Int))==(ts.length:Int))=true:=by simpa using (by omega:(4*(ins:Int))=(ts.length:Int))
     clear HR2 k4;go_wp2_with fail
     go_ret2
     exact⟨_,sA (by rw[HR3.out]),by rw[HR3.out];exact uE HO.out hs1,by rw[HR3.out];exact(by omega:acc.length<=us.length),HB1.out.trans (HB.out.mono hs1)⟩
    ·have HR3:Hid (ans=([],10)):=by have:=HR2.out;simp only[if_neg k4]at this;exact this
     have b4:((4*(ins:Int)) != (ts.length:Int))=true:=by simpa using (by omega:¬(4*(ins:Int))=(ts.length:Int))
     have b5:((4*(ins:Int))==(ts.length:Int))=false:=by simpa using (by omega:¬(4*(ins:Int))=(ts.length:Int))
     clear HR2 k4;go_wp2_with fail
     go_ret2
     exact⟨_,sA (by rw[HR3.out]),by rw[HR3.out];exact World.ownsRow_nil _ _ _ _,by rw[HR3.out];exact Nat.zero_le _,HB1.out.trans (HB.out.mono hs1)⟩
end Go.Proofs.YtnbpdffdnphbeaaGreatDoor
