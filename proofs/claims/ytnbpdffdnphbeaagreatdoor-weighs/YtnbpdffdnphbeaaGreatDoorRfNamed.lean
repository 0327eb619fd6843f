import Derived.Test.YtnbpdffdnphbeaaGreatDoorRfBase
import Derived.Test.YtnbpdffdnphbeaaGreatDoorCkErr2
set_option maxHeartbeats 4000000
namespace Go.Proofs.YtnbpdffdnphbeaaGreatDoor
open Go.RowKit
def zBU:Bs:=[60,32,60,61,32,61,32,33,61,32,62,61,32,62]
theorem Gy(s:Bs):xR zBU s=decide (s∈kS):=by
 rw[dW,show cT zBU (zBU.length+1) 0 0=kS by decide]
theorem VR(s:Bs)(w:World):Calls Tryz.prog 180 #[.string ⟨#[60,32,60,61,32,61,32,33,61,32,62,61,32,62]⟩,.string ⟨s.toArray⟩] w fun e w'=>e=.returned (.bool (decide (s∈kS)))/\w'=w:=by
 have:=dX zBU s w (by decide);rw[Gy]at this;exact this
theorem zEE(w:World)(a:Option Addr)(c:Nat)(ls:List zH)(us:List zI)(u:zI)(g o cu k w0:Nat)(h:lV w a us)(hA:yX ls us)(hs:qT w g o u)(hsm:u.length<=10000)(hcu:u.length<=cu)(hk1:1<=k)(hk:k<u.length)(hw0:pW u=w0) :
 Calls Tryz.prog 192 #[.slice a us.length c,.slice (some ⟨g,o,none⟩) u.length cu,.int .i64 k] w fun e w'=>e=.returned (.bool (lQ us u k))/\w'=w:=by
 have HN:=zA (zB7 w a c ls us (tA u k) h hA);have HF:=zA (vz w a c ls us (tA u k) h hA);have HH:=zA (Vh w a c ls us (tA u k) h hA);have HW:=zA (iT u g o cu w hs hsm hcu);rw[hw0]at HW;have hwA:iU u=w0:=by unfold iU;rw[hw0];rfl
 obtain⟨k',rfl⟩:∃k',k=k'+1:=⟨k-1,by omega⟩;have hck:=(hs.tok hk).1;have hcp:=(hs.tok (show k'<u.length by omega)).2;have HCn:=zA (fun h1:k'+1+1<u.length=>(hs.tok h1).2);have ikl:((k':Int)+1)<(u.length:Int):=by omega
 have ikl2:(k':Int)<(u.length:Int):=by omega
 by_cases kw:k'+1<w0
 ·have HR:Hid (lQ us u (k'+1)=(cY us (tA u (k'+1)) || jW us (tA u (k'+1)))):=by unfold Hid lQ X7;rw[hwA,if_pos kw];rfl
  clear h hA hs hw0 hwA HF HCn hcp;generalize cY us (tA u (k'+1))=p at *;generalize jW us (tA u (k'+1))=q at *;generalize tA u (k'+1)=tt at *;cases p
  ·go_enter Tryz.func192,Tryz.ntmps192
   go_wp2_with fail
   refine HW.out.mono ?_;rintro e w1 ⟨rfl,hw⟩;obtain rfl:=hw.symm;go_wp2_with fail
   refine HN.out.mono ?_;rintro e w1 ⟨rfl,hw⟩;obtain rfl:=hw.symm;go_wp2_with fail
   refine HH.out.mono ?_;rintro e w1 ⟨rfl,hw⟩;obtain rfl:=hw.symm;go_wp2_with fail
   go_ret
   exact⟨zE HR.out.symm,rfl⟩
  ·go_enter Tryz.func192,Tryz.ntmps192
   go_wp2_with fail
   refine HW.out.mono ?_;rintro e w1 ⟨rfl,hw⟩;obtain rfl:=hw.symm;go_wp2_with fail
   refine HN.out.mono ?_;rintro e w1 ⟨rfl,hw⟩;obtain rfl:=hw.symm;go_wp2_with fail
   go_ret
   exact⟨zE HR.out.symm,rfl⟩
 have HR0:Hid (lQ us u (k'+1)=GB us (mT (cA u k') (CE u (k'+1)),tA u (k'+1))):=by unfold Hid lQ X7;rw[hwA,if_neg kw];rfl
 clear h hA hs hw0 hwA;generalize zGM:cA u k'=cl at *;clear zGM;by_cases kh:cl=[104,97,115]
 ·subst kh
  have HR:Hid (lQ us u (k'+1)=jW us (tA u (k'+1))):=by unfold Hid;rw[HR0.out,show mT [104,97,115] (CE u (k'+1))=1 from if_pos rfl];rfl
  clear HR0 HN HF HCn;generalize jW us (tA u (k'+1))=q at *;generalize tA u (k'+1)=tt at *
  go_enter Tryz.func192,Tryz.ntmps192
  go_wp2_with fail
  refine HW.out.mono ?_;rintro e w1 ⟨rfl,hw⟩;obtain rfl:=hw.symm;go_wp2_with fail
  refine HH.out.mono ?_;rintro e w1 ⟨rfl,hw⟩;obtain rfl:=hw.symm;go_wp2_with fail
  go_ret
  exact⟨zE HR.out.symm,rfl⟩
 have bh:(cl==[104,97,115])=false:=by simpa using kh
 have HA1:=zA (VR cl w);by_cases kc:cl∈kS
 ·have HR:Hid (lQ us u (k'+1)=cY us (tA u (k'+1))):=by unfold Hid;rw[HR0.out,wQ kh (.inl kc)];rfl
  rw[decide_eq_true kc]at HA1;clear HR0 HH HF HCn kh kc;generalize cY us (tA u (k'+1))=q at *;generalize tA u (k'+1)=tt at *
  go_enter Tryz.func192,Tryz.ntmps192
  go_wp2_with fail
  refine HW.out.mono ?_;rintro e w1 ⟨rfl,hw⟩;obtain rfl:=hw.symm;go_wp2_with fail
  refine HA1.out.mono ?_;rintro e w1 ⟨rfl,hw⟩;obtain rfl:=hw.symm;go_wp2_with fail
  refine HN.out.mono ?_;rintro e w1 ⟨rfl,hw⟩;obtain rfl:=hw.symm;go_wp2_with fail
  go_ret
  exact⟨zE HR.out.symm,rfl⟩
 rw[decide_eq_false kc]at HA1;by_cases kn:k'+1+1<u.length
 ·have hcn:=HCn.out kn
  have hnx:CE u (k'+1)=cA u (k'+1+1):=by unfold CE;rw[if_pos kn]
  rw[hnx]at HR0;have HA2:=zA (VR (cA u (k'+1+1)) w);have ikn:((k':Int)+1+1)<(u.length:Int):=by omega
  generalize hcl2:cA u (k'+1+1)=cl2 at *;clear hcl2 hnx HCn;by_cases kc2:cl2∈kS
  ·have HR:Hid (lQ us u (k'+1)=cY us (tA u (k'+1))):=by unfold Hid;rw[HR0.out,wQ kh (.inr kc2)];rfl
   rw[decide_eq_true kc2]at HA2;clear HR0 HH HF kh kc kc2;generalize cY us (tA u (k'+1))=q at *;generalize tA u (k'+1)=tt at *
   go_enter Tryz.func192,Tryz.ntmps192
   go_wp2_with fail
   refine HW.out.mono ?_;rintro e w1 ⟨rfl,hw⟩;obtain rfl:=hw.symm;go_wp2_with fail
   refine HA1.out.mono ?_;rintro e w1 ⟨rfl,hw⟩;obtain rfl:=hw.symm;go_wp2_with fail
   refine HA2.out.mono ?_;rintro e w1 ⟨rfl,hw⟩;obtain rfl:=hw.symm;go_wp2_with fail
   refine HN.out.mono ?_;rintro e w1 ⟨rfl,hw⟩;obtain rfl:=hw.symm;go_wp2_with fail
   go_ret
   exact⟨zE HR.out.symm,rfl⟩
  ·have HR:Hid (lQ us u (k'+1)=dL us (tA u (k'+1))):=by unfold Hid;rw[HR0.out,JA ⟨kh,kc⟩ kc2];rfl
   rw[decide_eq_false kc2]at HA2;clear HR0 HH HN kh kc kc2;generalize dL us (tA u (k'+1))=q at *;generalize tA u (k'+1)=tt at *
   go_enter Tryz.func192,Tryz.ntmps192
   go_wp2_with fail
   refine HW.out.mono ?_;rintro e w1 ⟨rfl,hw⟩;obtain rfl:=hw.symm;go_wp2_with fail
   refine HA1.out.mono ?_;rintro e w1 ⟨rfl,hw⟩;obtain rfl:=hw.symm;go_wp2_with fail
   refine HA2.out.mono ?_;rintro e w1 ⟨rfl,hw⟩;obtain rfl:=hw.symm;go_wp2_with fail
   refine HF.out.mono ?_;rintro e w1 ⟨rfl,hw⟩;obtain rfl:=hw.symm;go_wp2_with fail
   go_ret
   exact⟨zE HR.out.symm,rfl⟩
 ·have hnx:CE u (k'+1)=[]:=by unfold CE;rw[if_neg kn]
  have HR:Hid (lQ us u (k'+1)=dL us (tA u (k'+1))):=by unfold Hid;rw[HR0.out,hnx,JA ⟨kh,kc⟩ (by decide)];rfl
  have ikn:(u.length:Int)<=(k':Int)+1+1:=by omega
  clear HR0 HH HN kh kc HCn hnx;generalize dL us (tA u (k'+1))=q at *;generalize tA u (k'+1)=tt at *
  go_enter Tryz.func192,Tryz.ntmps192
  go_wp2_with fail
  refine HW.out.mono ?_;rintro e w1 ⟨rfl,hw⟩;obtain rfl:=hw.symm;go_wp2_with fail
  refine HA1.out.mono ?_;rintro e w1 ⟨rfl,hw⟩;obtain rfl:=hw.symm;go_wp2_with fail
  refine HF.out.mono ?_;rintro e w1 ⟨rfl,hw⟩;obtain rfl:=hw.symm;go_wp2_with fail
  go_ret
  exact⟨zE HR.out.symm,rfl⟩
theorem kK{a b c d:Int}(h:a=c)(k:b=d):Ending.returned (.tuple #[.int .i64 a,.int .i64 b])=.returned (.tuple #[.int .i64 c,.int .i64 d]):=by rw[h,k]
def Ka(n:Nat):Prop:=∀(ts:zI) (g o cap:Nat) (w:World),qT w g o ts->ts.length<=10000->ts.length<=cap->cap<=maxLen->qD n ts=true ->
    Calls Tryz.prog 131 #[.slice (some ⟨g,o,none⟩) ts.length cap] w fun e w'=>e=.returned (.tuple #[.int .i64 (yG n ts).1,.int .i64 (yG n ts).2])/\w'=w
theorem Dp(n:Nat)(ih:Ka n)(ts:zI)(g o cap:Nat)(w:World)(hs:qT w g o ts)(zG9:ts.length<=10000)(hc:ts.length<=cap)(hm:cap<=maxLen)(hg:qD (n+1) ts=true)(ho:0<=yM ts vK) :
 Calls Tryz.prog 131 #[.slice (some ⟨g,o,none⟩) ts.length cap] w fun e w'=>e=.returned (.tuple #[.int .i64 (yG (n+1) ts).1,.int .i64 (yG (n+1) ts).2])/\w'=w:=by
 obtain⟨k,hk⟩:=Int.eq_ofNat_of_zero_le ho;have hb:=vC ts vK;rw[qD,if_pos ho,hk,Int.toNat_natCast,Bool.and_eq_true]at hg;have hd:=nY hg.2;rw[List.length_drop]at hd;have HA:=ih (ts.take k) g o cap w (hs.take k) (by rw[List.length_take];omega) (by rw[List.length_take];omega) hm hg.1;have HB:=ih (ts.drop (k+1)) g (o+(k+1)*3) (cap-(k+1)) w (hs.drop (k+1)) (by rw[List.length_drop];omega) (by rw[List.length_drop];omega) (by omega) hg.2;have la:=tE n (ts.take k);have lb:=tE n (ts.drop (k+1))
 have HR:Hid (yG (n+1) ts=pK (yG n (ts.take k)) (yG n (ts.drop (k+1)))):=by
  unfold Hid;rw[yG,if_pos ho,hk,Int.toNat_natCast]
 rw[List.length_take,Nat.min_eq_left (by omega)]at HA la;rw[List.length_drop]at HB lb;generalize yG n (ts.take k)=a at *;generalize yG n (ts.drop (k+1))=b at *;obtain⟨a1,a2⟩:=a;obtain⟨b1,b2⟩:=b;simp only[pK]at HA HB HR la lb;have HA':=sP HA;have HB':=sP HB;have HO:Hid (yM ts vK=k):=hk;have hk2:k+1<ts.length:=by omega
 have HS:Hid (qT w g o ts):=hs;have i1 : -20000<=a1+b1:=by omega
 have i2:a1+b1<=20002:=by omega
 clear HA HB hg hs hb hk ho ih hd la lb;by_cases kz:a2<b2
 ·have HR2:Hid (yG (n+1) ts=(a1+b1,b2)):=by have h1:=HR.out;rw[if_pos kz]at h1;exact h1
  clear HR
  go_enter Tryz.func131,Tryz.ntmps131
  go_wp2_with fail
  refine(yS ts vK g o cap _ HS.out (by omega) hc).mono ?_;rintro e w' ⟨rfl,hw⟩;obtain rfl:=hw.symm;rw[HO.out];go_wp2_with fail
  refine HA'.out.mono ?_;rintro e w' ⟨rfl,hw⟩;obtain rfl:=hw.symm;go_wp2_with fail
  refine HB'.out.mono ?_;rintro e w' ⟨rfl,hw⟩;obtain rfl:=hw.symm;go_wp2_with fail
  go_ret2
  exact⟨kK (by rw[HR2.out]) (by rw[HR2.out]),rfl⟩
 ·have HR2:Hid (yG (n+1) ts=(a1+b1,a2)):=by have h1:=HR.out;rw[if_neg kz]at h1;exact h1
  clear HR
  go_enter Tryz.func131,Tryz.ntmps131
  go_wp2_with fail
  refine(yS ts vK g o cap _ HS.out (by omega) hc).mono ?_;rintro e w' ⟨rfl,hw⟩;obtain rfl:=hw.symm;rw[HO.out];go_wp2_with fail
  refine HA'.out.mono ?_;rintro e w' ⟨rfl,hw⟩;obtain rfl:=hw.symm;go_wp2_with fail
  refine HB'.out.mono ?_;rintro e w' ⟨rfl,hw⟩;obtain rfl:=hw.symm;go_wp2_with fail
  go_ret2
  exact⟨kK (by rw[HR2.out]) (by rw[HR2.out]),rfl⟩
theorem Uu(n:Nat)(ih:Ka n)(ts:zI)(g o cap:Nat)(w:World)(hs:qT w g o ts)(zG9:ts.length<=10000)(hc:ts.length<=cap)(hm:cap<=maxLen)(hg:qD (n+1) ts=true)(hor:¬ 0<=yM ts vK)(ho:0<=yM ts yL) :
 Calls Tryz.prog 131 #[.slice (some ⟨g,o,none⟩) ts.length cap] w fun e w'=>e=.returned (.tuple #[.int .i64 (yG (n+1) ts).1,.int .i64 (yG (n+1) ts).2])/\w'=w:=by
 obtain⟨k,hk⟩:=Int.eq_ofNat_of_zero_le ho;have hb:=vC ts yL;have hbo:=vC ts vK;have HO1:Hid (yM ts vK = -1):=by unfold Hid;omega
 rw[qD,if_neg hor,if_pos ho,hk,Int.toNat_natCast,Bool.and_eq_true]at hg;have hd:=nY hg.2;rw[List.length_drop]at hd;have HA:=ih (ts.take k) g o cap w (hs.take k) (by rw[List.length_take];omega) (by rw[List.length_take];omega) hm hg.1;have HB:=ih (ts.drop (k+1)) g (o+(k+1)*3) (cap-(k+1)) w (hs.drop (k+1)) (by rw[List.length_drop];omega) (by rw[List.length_drop];omega) (by omega) hg.2;have la:=tE n (ts.take k);have lb:=tE n (ts.drop (k+1))
 have HR:Hid (yG (n+1) ts=pK (yG n (ts.take k)) (yG n (ts.drop (k+1)))):=by
  unfold Hid;rw[yG,if_neg hor,if_pos ho,hk,Int.toNat_natCast]
 rw[List.length_take,Nat.min_eq_left (by omega)]at HA la;rw[List.length_drop]at HB lb;generalize yG n (ts.take k)=a at *;generalize yG n (ts.drop (k+1))=b at *;obtain⟨a1,a2⟩:=a;obtain⟨b1,b2⟩:=b;simp only[pK]at HA HB HR la lb;have HA':=sP HA;have HB':=sP HB;have HO:Hid (yM ts yL=k):=hk;have hk2:k+1<ts.length:=by omega
 have HS:Hid (qT w g o ts):=hs;have i1 : -20000<=a1+b1:=by omega
 have i2:a1+b1<=20002:=by omega
 clear HA HB hg hs hb hbo hk ho hor ih hd la lb;by_cases kz:a2<b2
 ·have HR2:Hid (yG (n+1) ts=(a1+b1,b2)):=by have h1:=HR.out;rw[if_pos kz]at h1;exact h1
  clear HR
  go_enter Tryz.func131,Tryz.ntmps131
  go_wp2_with fail
  refine(yS ts vK g o cap _ HS.out (by omega) hc).mono ?_;rintro e w' ⟨rfl,hw⟩;obtain rfl:=hw.symm;rw[HO1.out];go_wp2_with fail
  refine(yS ts yL g o cap _ HS.out (by omega) hc).mono ?_;rintro e w' ⟨rfl,hw⟩;obtain rfl:=hw.symm;rw[HO.out];go_wp2_with fail
  refine HA'.out.mono ?_;rintro e w' ⟨rfl,hw⟩;obtain rfl:=hw.symm;go_wp2_with fail
  refine HB'.out.mono ?_;rintro e w' ⟨rfl,hw⟩;obtain rfl:=hw.symm;go_wp2_with fail
  go_ret2
  exact⟨kK (by rw[HR2.out]) (by rw[HR2.out]),rfl⟩
 ·have HR2:Hid (yG (n+1) ts=(a1+b1,a2)):=by have h1:=HR.out;rw[if_neg kz]at h1;exact h1
  clear HR
  go_enter Tryz.func131,Tryz.ntmps131
  go_wp2_with fail
  refine(yS ts vK g o cap _ HS.out (by omega) hc).mono ?_;rintro e w' ⟨rfl,hw⟩;obtain rfl:=hw.symm;rw[HO1.out];go_wp2_with fail
  refine(yS ts yL g o cap _ HS.out (by omega) hc).mono ?_;rintro e w' ⟨rfl,hw⟩;obtain rfl:=hw.symm;rw[HO.out];go_wp2_with fail
  refine HA'.out.mono ?_;rintro e w' ⟨rfl,hw⟩;obtain rfl:=hw.symm;go_wp2_with fail
  refine HB'.out.mono ?_;rintro e w' ⟨rfl,hw⟩;obtain rfl:=hw.symm;go_wp2_with fail
  go_ret2
  exact⟨kK (by rw[HR2.out]) (by rw[HR2.out]),rfl⟩
theorem Us(n:Nat)(ih:Ka n)(ts:zI)(g o cap:Nat)(w:World)(hs:qT w g o ts)(zG9:ts.length<=10000)(hc:ts.length<=cap)(hm:cap<=maxLen)(hg:qD (n+1) ts=true)(hor:¬ 0<=yM ts vK)(zGW:¬ 0<=yM ts yL) :
 Calls Tryz.prog 131 #[.slice (some ⟨g,o,none⟩) ts.length cap] w fun e w'=>e=.returned (.tuple #[.int .i64 (yG (n+1) ts).1,.int .i64 (yG (n+1) ts).2])/\w'=w:=by
 have hbo:=vC ts vK;have hba:=vC ts yL;have HO1:Hid (yM ts vK = -1):=by unfold Hid;omega
 have HO2:Hid (yM ts yL = -1):=by unfold Hid;omega
 have hpos:=nY hg;by_cases hno:zX (ts.getD 0 (0,[])).2=xF
 ·rw[qD,if_neg hor,if_neg zGW,if_pos hno,Bool.and_eq_true]at hg
  have hd:=nY hg.2;rw[List.length_drop]at hd;have HA:=ih (ts.drop 1) g (o+1*3) (cap-1) w (hs.drop 1) (by rw[List.length_drop];omega) (by rw[List.length_drop];omega) (by omega) hg.2;have la:=tE n (ts.drop 1)
  have HR:Hid (yG (n+1) ts=((yG n (ts.drop 1)).1,(yG n (ts.drop 1)).2+1)):=by
   unfold Hid;rw[yG,if_neg hor,if_neg zGW,if_pos hno]
  rw[List.length_drop]at HA la;generalize yG n (ts.drop 1)=a at *;obtain⟨a1,a2⟩:=a;simp only at HA HR la;have HA':=sP HA;have hc2:=(hs 0 hpos).2.2;rw[hno]at hc2;simp only[Nat.zero_mul,Nat.add_zero,xF]at hc2;have hk2:1<ts.length:=by omega
  have HS:Hid (qT w g o ts):=hs;clear HA hg hs hbo hba ih hd hor zGW hno
  go_enter Tryz.func131,Tryz.ntmps131
  go_wp2_with fail
  refine(yS ts vK g o cap _ HS.out (by omega) hc).mono ?_;rintro e w' ⟨rfl,hw⟩;obtain rfl:=hw.symm;rw[HO1.out];go_wp2_with fail
  refine(yS ts yL g o cap _ HS.out (by omega) hc).mono ?_;rintro e w' ⟨rfl,hw⟩;obtain rfl:=hw.symm;rw[HO2.out];go_wp2_with fail
  refine HA'.out.mono ?_;rintro e w' ⟨rfl,hw⟩;obtain rfl:=hw.symm;go_wp2_with fail
  go_ret2
  exact⟨kK (by rw[HR.out]) (by rw[HR.out]),rfl⟩
 by_cases zGS:zX (ts.getD 0 (0,[])).2=yU
 ·rw[qD,if_neg hor,if_neg zGW,if_neg hno,if_pos zGS,Bool.and_eq_true]at hg
  have h0:2<ts.length:=by simpa using hg.1
  have hl2:((ts.drop 1).take (ts.length-2)).length=ts.length-2:=by rw[List.length_take,List.length_drop];omega
  have HA:=ih ((ts.drop 1).take (ts.length-2)) g (o+1*3) (cap-1) w ((hs.drop 1).take _) (by rw[hl2];omega) (by rw[hl2];omega) (by omega) hg.2;have la:=tE n ((ts.drop 1).take (ts.length-2))
  have HR:Hid (yG (n+1) ts=((yG n ((ts.drop 1).take (ts.length-2))).1,(yG n ((ts.drop 1).take (ts.length-2))).2+1)):=by
   unfold Hid;rw[yG,if_neg hor,if_neg zGW,if_neg hno,if_pos zGS]
  rw[hl2]at HA la;generalize yG n ((ts.drop 1).take (ts.length-2))=a at *;obtain⟨a1,a2⟩:=a;simp only at HA HR la;have HA':=sP HA;have hc2:=(hs 0 hpos).2.2;rw[zGS]at hc2;simp only[Nat.zero_mul,Nat.add_zero,yU]at hc2;have HS:Hid (qT w g o ts):=hs;clear HA hg hs hbo hba ih hor zGW hno zGS hl2
  go_enter Tryz.func131,Tryz.ntmps131
  go_wp2_with fail
  refine(yS ts vK g o cap _ HS.out (by omega) hc).mono ?_;rintro e w' ⟨rfl,hw⟩;obtain rfl:=hw.symm;rw[HO1.out];go_wp2_with fail
  refine(yS ts yL g o cap _ HS.out (by omega) hc).mono ?_;rintro e w' ⟨rfl,hw⟩;obtain rfl:=hw.symm;rw[HO2.out];go_wp2_with fail
  refine HA'.out.mono ?_;rintro e w' ⟨rfl,hw⟩;obtain rfl:=hw.symm;go_wp2_with fail
  go_ret2
  exact⟨kK (by rw[HR.out]) (by rw[HR.out]),rfl⟩
 ·have HR:Hid (yG (n+1) ts=(1,0)):=by
   unfold Hid;rw[yG,if_neg hor,if_neg zGW,if_neg hno,if_neg zGS]
  have hc2:=(hs 0 hpos).2.2;generalize zX (ts.getD 0 (0,[])).2=cl at *;simp only[Nat.zero_mul,Nat.add_zero]at hc2;have b1:(cl==[110,111,116])=false:=by simpa[xF] using hno
  have b2:(cl==[40])=false:=by simpa[yU] using zGS
  have HS:Hid (qT w g o ts):=hs;clear hg hs hbo hba hor zGW hno zGS ih
  go_enter Tryz.func131,Tryz.ntmps131
  go_wp2_with fail
  refine(yS ts vK g o cap _ HS.out (by omega) hc).mono ?_;rintro e w' ⟨rfl,hw⟩;obtain rfl:=hw.symm;rw[HO1.out];go_wp2_with fail
  refine(yS ts yL g o cap _ HS.out (by omega) hc).mono ?_;rintro e w' ⟨rfl,hw⟩;obtain rfl:=hw.symm;rw[HO2.out];go_wp2_with fail
  go_ret2
  exact⟨kK (by rw[HR.out]) (by rw[HR.out]),rfl⟩
theorem Ut(n:Nat):Ka n:=by
 induction n with
 | zero=>intro ts g o cap w _ _ _ _ hg;simp[qD]at hg
 | succ n ih =>
   intro ts g o cap w hs zG9 hc hm hg;by_cases ho:0<=yM ts vK
   ·exact Dp n ih ts g o cap w hs zG9 hc hm hg ho
   ·by_cases ha:0<=yM ts yL
    ·exact Uu n ih ts g o cap w hs zG9 hc hm hg ho ha
    ·exact Us n ih ts g o cap w hs zG9 hc hm hg ho ha
theorem jQ{s:Bs}(h:zX s=zV):s.length<=4:=by
 rcases Nat.lt_or_ge 4 s.length with h1|h1
 ·exfalso
  have hk:=(mM s).2 h;unfold vH at hk;split at hk
  ·split at hk
   ·omega
   ·split at hk <;> omega
  ·split at hk
   ·rw[if_pos (.inl h1)]at hk;omega
   ·split at hk <;> omega
 ·exact h1
theorem Gg(c:Bs)(us:List zI)(i k:Nat)(hi:i<us.length)(hk:k<=i):bV c ((us.take (i+1)).drop k)=(if cA (uA us k) 0=c then 1 else 0)+bV c ((us.take (i+1)).drop (k+1)):=by
 have hl:k<(us.take (i+1)).length:=by rw[List.length_take];omega
 rw[List.drop_eq_getElem_cons hl,bV]
 have e:(us.take (i+1))[k]=uA us k:=by
  rw[List.getElem_take];unfold uA;rw[List.getD,List.getElem?_eq_getElem (by omega)];rfl
 rw[e]
theorem zBS(c:Bs)(us:List zI):bV c us<=us.length:=by
 induction us with
 | nil=>exact Nat.le_refl _
 | cons u r ih=>rw[bV,List.length_cons];split <;> omega
def oZ(u:zI)(k:Nat):Bs:=if k=0 then [] else tA u (k-1)
theorem UP(u:zI)(k:Nat):oZ u (k+1)=tA u k:=by unfold oZ;rw[if_neg (by omega)];rfl
theorem rU(u:zI)(w k:Nat)(hk:k<w)(hw:w<=u.length):(u.take w).drop k=u.getD k (0,[])::(u.take w).drop (k+1):=by
 have hl:k<(u.take w).length:=by rw[List.length_take];omega
 rw[zO (u.take w) k hl];congr 1
 rw[List.getD,List.getD,List.getElem?_take_of_lt hk]
theorem qg(u:zI):qV u<=u.length:=by
 induction u with
 | nil=>exact Nat.le_refl _
 | cons t r ih=>rw[qV,List.length_cons];split <;> omega
theorem qp(u:zI)(w k:Nat)(hk:k<w)(hw:w<=u.length):mD (oZ u k) ((u.take w).drop k)=((decide (cA u k=[42])&&decide (9<xH 0 (oZ u k))) || mD (oZ u (k+1)) ((u.take w).drop (k+1))):=by
 rw[rU u w k hk hw,mD,UP];rfl
theorem zAB(u:zI)(w k:Nat)(hk:k<w)(hw:w<=u.length):qV ((u.take w).drop k)=(if cA u k=[43]\/cA u k=[45] then 1 else 0)+qV ((u.take w).drop (k+1)):=by
 rw[rU u w k hk hw,qV];rfl
theorem Gb{us:List zI}{i:Nat}(h:¬oN (cA (uA us i) 0)<(bV (cA (uA us i) 0) (us.take (i+1)):Int))(hk:¬cA (uA us i) 0=zW):pV us i=false:=by
 unfold pV;rw[decide_eq_false h,decide_eq_false hk];rfl
theorem V9{us:List zI}{i:Nat}(h:¬oN (cA (uA us i) 0)<(bV (cA (uA us i) 0) (us.take (i+1)):Int))(hk:cA (uA us i) 0=zW):pV us i=QO (uA us i):=by
 unfold pV;rw[decide_eq_false h,decide_eq_true hk];rfl
theorem Ga(w:World)(a:Option Addr)(c:Nat)(ls:List zH)(us:List zI)(i:Nat)(hi:i<us.length)(h:lV w a us)(hA:yX ls us) :
 Calls Tryz.prog 75 #[.slice a us.length c,.int .i64 i] w fun e w'=>e=.returned (.bool (pV us i))/\Below w.heap.size w w':=by
 have HR:=zA h;have zGH:=h.few;have HP:Hid (∀k,k<us.length->0<(uA us k).length):=fun k hk=>by have:=(hA.get k hk).two;omega
 have HLT:=zA (hA.get i hi);have zGM:=zBS (cA (uA us i) 0) (us.take (i+1));rw[List.length_take]at zGM;have hlim:0<=oN (cA (uA us i) 0)/\oN (cA (uA us i) 0)<=28:=by unfold oN;repeat' split <;> omega
 clear h hA
 go_enter Tryz.func75,Tryz.ntmps75
 go_wp2_with fail
 go_loopw [5,6] (fun nv kv wr=>∃(n k:Nat),k<=i+1/\n<=k/\nv=.int .i64 n/\kv=.int .i64 k/\Hid (Below w.heap.size w wr)/\Hid (n+bV (cA (uA us i) 0) ((us.take (i+1)).drop k)=bV (cA (uA us i) 0) (us.take (i+1)))) (fun _ kv _=>i+1-(intOf kv).toNat)
 case atStart=>exact⟨0,0,by omega,Nat.le_refl _,rfl,rfl,zA (Below.refl _ _),zA (by simp)⟩
 case round =>
  obtain⟨n,k,hk,hn,rfl,rfl,HB,HE⟩:=hrel;by_cases hki:k<=i
  ·have hRr:=HR.out.below HB.out
   obtain⟨gl,g,o,cu,rfl,zGI,zG4,hlc,hcm,hsm⟩:=hRr.at (show k<us.length by omega);obtain⟨gl',g',o',cu',hgg,hcell',hseg',hlc',hcm',hsm'⟩:=hRr.at hi;obtain rfl:gl=gl':=by simpa using hgg
   have hp:=HP.out k (by omega);have hp':=HP.out i hi;have hc0:=(zG4.tok hp).2;have hc0':=(hseg'.tok hp').2;rw[Nat.zero_mul,Nat.add_zero]at hc0 hc0';have hE:=HE.out;rw[Gg _ us i k hi hki]at hE;have HE2:=zA hE;have ik:(k:Int)<(us.length:Int):=by omega
   have ii:(i:Int)<(us.length:Int):=by omega
   have il:(0:Int)<((uA us k).length:Int):=by omega
   have il':(0:Int)<((uA us i).length:Int):=by omega
   clear HE hE zG4 hseg' hgg hRr zGM hlim;by_cases k1:cA (uA us k) 0=cA (uA us i) 0
   ·have HE3:Hid (n+1+bV (cA (uA us i) 0) ((us.take (i+1)).drop (k+1))=bV (cA (uA us i) 0) (us.take (i+1))):=by have:=HE2.out;rw[if_pos k1]at this;unfold Hid;omega
    have b1:(cA (uA us k) 0==cA (uA us i) 0)=true:=by simpa using k1
    clear HE2 k1;go_wp2_with fail
    go_quiet (fail)
    go_wp2_with fail
    go_roundw
    case rel=>exact⟨n+1,k+1,by omega,by omega,by go_num,by go_num,zA (yE HB.out _),HE3⟩
    case measure=>simp[intOf];omega
   ·have HE3:Hid (n+bV (cA (uA us i) 0) ((us.take (i+1)).drop (k+1))=bV (cA (uA us i) 0) (us.take (i+1))):=by have:=HE2.out;rw[if_neg k1]at this;unfold Hid;omega
    have b1:(cA (uA us k) 0==cA (uA us i) 0)=false:=by simpa using k1
    clear HE2 k1;go_wp2_with fail
    go_quiet (fail)
    go_wp2_with fail
    go_roundw
    case rel=>exact⟨n,k+1,by omega,by omega,rfl,by go_num,zA (yE HB.out _),HE3⟩
    case measure=>simp[intOf];omega
  ·have HN:Hid (n=bV (cA (uA us i) 0) (us.take (i+1))):=by
    have:=HE.out;rw[List.drop_eq_nil_of_le (by rw[List.length_take];omega)]at this;exact this
   have hRr:=HR.out.below HB.out;obtain⟨gl,g,o,cu,rfl,zGI,zG4,hlc,hcm,hsm⟩:=hRr.at hi;have hp:=HP.out i hi;have hc0:=(zG4.tok hp).2;rw[Nat.zero_mul,Nat.add_zero]at hc0;have il:(0:Int)<((uA us i).length:Int):=by omega
   have HSg:=zA zG4;have HLim:=zA (fun w'=>vb (cA (uA us i) 0) w');have HC0:=zA (fun h1=>Gb (us:=us) (i:=i) h1);have HC1:=zA (fun h1=>V9 (us:=us) (i:=i) h1);have HCt:Hid (oN (cA (uA us i) 0)<(bV (cA (uA us i) 0) (us.take (i+1)):Int)->pV us i=true):=fun h1=>by unfold pV;rw[decide_eq_true h1];rfl
   obtain⟨n',hn'⟩:∃n',n'=bV (cA (uA us i) 0) (us.take (i+1)):=⟨_,rfl⟩;rw[<-hn']at HC0 HC1 HCt zGM HN;obtain rfl:n=n':=HN.out;have HRl:=zA (fun hk=>HLT.out.rule hk);have HTo:=zA HLT.out.toks;clear HE hn' HN hRr zG4 HP HLT;generalize hu:uA us i=u at *;have HU:=zA hu;clear hu;generalize hlm:oN (cA u 0)=lm at *;by_cases hm:lm<(n:Int)
   ·have HF:=zA (HCt.out hm)
    clear HC0 HC1 HCt hlm;generalize cA u 0=cl at *;go_wp2_with fail
    refine(HLim.out _).mono ?_;rintro e w1 ⟨rfl,hw⟩;obtain rfl:=hw.symm;go_wp2_with fail
    go_ret
    exact⟨zE HF.out.symm,HB.out⟩
   ·by_cases hkr:cA u 0=zW
    ·have HF:=zA (HC1.out hm hkr)
     obtain⟨w0,hw0⟩:=HRl.out hkr;have HW0:=zA hw0;clear HC0 HC1 HCt hlm HRl;have hwlo:=hw0.wlo;have hwhi:=hw0.whi;have HWn:=zA hw0.wB;have HWt:=zA (Ut (u.length+1) (u.drop (w0+1)) g (o+(w0+1)*3) (cu-(w0+1)) wr (HSg.out.drop (w0+1)) (by rw[List.length_drop];omega) (by rw[List.length_drop];omega) (by omega) (hw0.good _ (by omega)));rw[List.length_drop]at HWt;have HMU:Hid (QO u=(mD [] (u.take w0) || (decide (4<(qV (u.take w0):Int)+1) || (decide (6<(yG (u.length+1) (u.drop (w0+1))).1) || decide (4<(yG (u.length+1) (u.drop (w0+1))).2))))):=by unfold Hid QO;rw[hw0.wAt]
     have hpm:=qg (u.take w0);rw[List.length_take]at hpm;rw[hkr]at hc0 HLim;simp only[zW]at hc0;have HLim2:Hid (∀w':World,Calls Tryz.prog 129 #[.string ⟨#[114,117,108,101]⟩] w' fun e w''=>e=.returned (.int .i64 lm)/\w''=w'):=HLim;clear hw0 hkr HLim;generalize yG (u.length+1) (u.drop (w0+1))=wt at *;obtain⟨wt1,wt2⟩:=wt;simp only at HWt HMU;go_wp2_with fail
     refine(HLim2.out _).mono ?_;rintro e w1 ⟨rfl,hw⟩;obtain rfl:=hw.symm;go_wp2_with fail
     refine(iT u g o cu _ HSg.out (by omega) hlc).mono ?_;rintro e w1 ⟨rfl,hw⟩;obtain rfl:=hw.symm;rw[HWn.out];go_wp2_with fail
     go_loop [8,9] (fun pv kv=>∃(p k:Nat),k<=w0/\p<=k/\pv=.int .i64 ((p:Int)+1)/\kv=.int .i64 k/\Hid (mD (oZ u k) ((u.take w0).drop k)=mD [] (u.take w0))/\Hid (p+qV ((u.take w0).drop k)=qV (u.take w0))) (fun _ kv=>w0-(intOf kv).toNat)
     case atStart=>exact⟨0,0,Nat.zero_le _,Nat.le_refl _,rfl,rfl,zA rfl,zA (by simp)⟩
     case round =>
      obtain⟨p,k,hk,hpk,rfl,rfl,HBg,HPm⟩:=hrel;by_cases hkw:k<w0
      ·have hE:=HBg.out
       have hP:=HPm.out;rw[qp u w0 k hkw (by omega)]at hE;rw[zAB u w0 k hkw (by omega)]at hP;have hck:=(HSg.out.tok (show k<u.length by omega)).2;have zGE:=HW0.out.stars k hkw;have HT1:=zA (fun hk1:0<k=>(HSg.out.tok (show k-1<u.length by omega)).1);have ikl:(k:Int)<(u.length:Int):=by omega
       have HE2:=zA hE;have HP2:=zA hP;have HSt:=zA zGE;clear HBg HPm hE hP zGE;obtain⟨cl,hcl2⟩:∃cl,cA u k=cl:=⟨_,rfl⟩;rw[hcl2]at HE2 HP2 HSt hck;clear hcl2;by_cases k1:cl=[43]
       ·subst k1
        have HE3:Hid (mD (oZ u (k+1)) ((u.take w0).drop (k+1))=mD [] (u.take w0)):=HE2.out;have HP3:Hid (p+1+qV ((u.take w0).drop (k+1))=qV (u.take w0)):=by have:=HP2.out;rw[if_pos (.inl rfl)]at this;unfold Hid;omega
        clear HE2 HP2;go_wp2_with fail
        go_round
        case rel=>exact⟨p+1,k+1,by omega,by omega,by go_num,by go_num,HE3,HP3⟩
        case measure=>simp[intOf];omega
       by_cases k2:cl=[45]
       ·subst k2
        have HE3:Hid (mD (oZ u (k+1)) ((u.take w0).drop (k+1))=mD [] (u.take w0)):=HE2.out;have HP3:Hid (p+1+qV ((u.take w0).drop (k+1))=qV (u.take w0)):=by have:=HP2.out;rw[if_pos (.inr rfl)]at this;unfold Hid;omega
        clear HE2 HP2 k1;go_wp2_with fail
        go_round
        case rel=>exact⟨p+1,k+1,by omega,by omega,by go_num,by go_num,HE3,HP3⟩
        case measure=>simp[intOf];omega
       have HP3:Hid (p+qV ((u.take w0).drop (k+1))=qV (u.take w0)):=by have:=HP2.out;rw[if_neg (by rintro(e|e);exact k1 e;exact k2 e)]at this;unfold Hid;omega
       clear HP2;by_cases k3:cl=[42]
       ·subst k3
        obtain⟨hk1,zGV⟩:=HSt.out rfl;have ht1:=HT1.out hk1;have hlen4:=jQ zGV;have e1:oZ u k=tA u (k-1):=by unfold oZ;rw[if_neg (by omega)]
        rw[e1]at HE2;have HNm:=zA (mP (tA u (k-1)) wr hlen4);obtain⟨k',rfl⟩:∃k',k=k'+1:=⟨k-1,by omega⟩;rw[show k'+1-1=k' by omega]at ht1 HE2 HNm;clear k1 k2 HSt HT1 zGV hlen4 e1;generalize tA u k'=tt at *;by_cases k9:9<xH 0 tt
        ·have HT:Hid (pV us i=true):=by
          unfold Hid;rw[HF.out,HMU.out,<-HE2.out,decide_eq_true k9];rfl
         clear HE2;generalize xH 0 tt=vv at *;go_wp2_with fail
         refine HNm.out.mono ?_;rintro e w1 ⟨rfl,hw⟩;obtain rfl:=hw.symm;go_wp2_with fail
         go_ret
         exact⟨zE HT.out.symm,HB.out⟩
        ·have HE3:Hid (mD (oZ u (k'+1+1)) ((u.take w0).drop (k'+1+1))=mD [] (u.take w0)):=by have:=HE2.out;rw[decide_eq_false k9,Bool.and_false,Bool.false_or]at this;exact this
         clear HE2;generalize xH 0 tt=vv at *;go_wp2_with fail
         refine HNm.out.mono ?_;rintro e w1 ⟨rfl,hw⟩;obtain rfl:=hw.symm;go_wp2_with fail
         go_round
         case rel=>exact⟨p,k'+1+1,by omega,by omega,rfl,by go_num,HE3,HP3⟩
         case measure=>simp[intOf];omega
       ·have HE3:Hid (mD (oZ u (k+1)) ((u.take w0).drop (k+1))=mD [] (u.take w0)):=by have:=HE2.out;rw[decide_eq_false k3,Bool.false_and,Bool.false_or]at this;exact this
        have b1:(cl==[43])=false:=by simpa using k1
        have b2:(cl==[45])=false:=by simpa using k2
        have b3:(cl==[42])=false:=by simpa using k3
        clear HE2 k1 k2 k3 HSt HT1;go_wp2_with fail
        go_round
        case rel=>exact⟨p,k+1,by omega,by omega,rfl,by go_num,HE3,HP3⟩
        case measure=>simp[intOf];omega
      ·obtain rfl:k=w0:=by omega
       have HF2:Hid (pV us i=(decide (4<(p:Int)+1) || (decide (6<wt1) || decide (4<wt2)))):=by
        have h1:=HBg.out;have h2:=HPm.out;rw[List.drop_eq_nil_of_le (by rw[List.length_take];omega)]at h1 h2;have h3:mD [] (u.take k)=false:=h1.symm;have h4:qV (u.take k)=p:=h2.symm;unfold Hid;rw[HF.out,HMU.out,h3,h4];rfl
       clear HBg HPm HF HMU;by_cases j1:4<(p:Int)+1
       ·have HF3:Hid (pV us i=true):=by unfold Hid;rw[HF2.out,decide_eq_true j1];rfl
        clear HF2;go_wp2_with fail
        refine HWt.out.mono ?_;rintro e w1 ⟨rfl,hw⟩;obtain rfl:=hw.symm;go_wp2_with fail
        go_ret
        exact⟨zE HF3.out.symm,HB.out⟩
       by_cases j2:6<wt1
       ·have HF3:Hid (pV us i=true):=by unfold Hid;rw[HF2.out,decide_eq_true j2,Bool.true_or,Bool.or_true]
        clear HF2;go_wp2_with fail
        refine HWt.out.mono ?_;rintro e w1 ⟨rfl,hw⟩;obtain rfl:=hw.symm;go_wp2_with fail
        go_ret
        exact⟨zE HF3.out.symm,HB.out⟩
       have HF3:Hid (pV us i=decide (4<wt2)):=by unfold Hid;rw[HF2.out,decide_eq_false j1,decide_eq_false j2];rfl
       clear HF2;go_wp2_with fail
       refine HWt.out.mono ?_;rintro e w1 ⟨rfl,hw⟩;obtain rfl:=hw.symm;go_wp2_with fail
       go_ret
       exact⟨zE (by rw[HF3.out,decide_eq_false (show ¬ 4<(p:Int)+1 by omega),decide_eq_false (show ¬ 6<wt1 by omega)];rfl),HB.out⟩
    ·have HF:=zA (HC0.out hm hkr)
     clear HC0 HC1 HCt hlm HRl;generalize cA u 0=cl at *;have b1:(cl==[114,117,108,101])=false:=by simpa[zW] using hkr
     clear hkr;go_wp2_with fail
     refine(HLim.out _).mono ?_;rintro e w1 ⟨rfl,hw⟩;obtain rfl:=hw.symm;go_wp2_with fail
     go_ret
     exact⟨zE HF.out.symm,HB.out⟩
theorem qv(us:List zI)(u:zI)(k:Nat)(h:¬k<u.length):nJ us u (u.length-k) k=false:=by
 rw[show u.length-k=0 by omega];rfl
theorem Gu(us:List zI)(u:zI)(k:Nat)(h:k<u.length):nJ us u (u.length-k) k=if cA u k=yQ/\lQ us u k=false then true else nJ us u (u.length-(k+1)) (k+1):=by
 rw[show u.length-k=(u.length-(k+1))+1 by omega,nJ]
theorem VF{f1 f2:Int}{i:Nat}{hd:Bool}(h1:¬f1<(i:Int))(h2:¬f2<(i:Int)):(decide (f1<(i:Int)) || decide (f2<(i:Int)) || hd)=hd:=by rw[decide_eq_false h1,decide_eq_false h2];rfl
theorem zCT{f1:Int}{i:Nat}{hd:Bool}(h1:¬f1<(i:Int)):(decide (f1<(i:Int)) || hd)=hd:=by rw[decide_eq_false h1];rfl
theorem BS(p:zI->Bool)(us:List zI):∀i:Nat,0<=vZ p us i->p (uA us ((vZ p us i).toNat-i))=true:=by
 induction us with
 | nil=>intro i h;simp[vZ]at h
 | cons u r ih =>
   intro i h;rw[vZ]at h ⊢;split
   ·rename_i hp;simpa[uA] using hp
   ·rename_i hp
    rw[if_neg hp]at h;have h1:=(dM p r (i+1)).2.2 h;have:=ih (i+1) h;rw[show (vZ p r (i+1)).toNat-i=((vZ p r (i+1)).toNat-(i+1))+1 by omega];exact this
theorem QX{ls:List zH}{us:List zI}(hA:yX ls us){nm:Bs}(h:0<=yF us zW 1 nm):∃f:Nat,yF us zW 1 nm=f/\f<us.length/\6<=(uA us f).length:=by
 have hb:=dM (YB zW 1 nm) us 0;have hh:=BS (YB zW 1 nm) us 0 h;obtain⟨f,hf⟩:=Int.eq_ofNat_of_zero_le h;unfold yF at hf h ⊢;rw[hf]at hh hb ⊢;have hfl:f<us.length:=by omega
 refine⟨f,rfl,hfl,?_⟩;unfold YB at hh;rw[Bool.and_eq_true]at hh;exact(hA.get f hfl).len (by simpa using hh.1)
theorem zAN(w:World)(a:Option Addr)(c:Nat)(ls:List zH)(us:List zI)(i:Nat)(hi:i<us.length)(h:lV w a us)(hA:yX ls us) :
 Calls Tryz.prog 132 #[.slice a us.length c,.int .i64 i] w fun e w'=>e=.returned (.bool (xM us i))/\w'=w:=by
 have hx:=hA.get i hi;have zGH:=h.few;obtain⟨gl,g,o,cu,e0,zGI,zG4,hlc,hcm,hsm⟩:=h.at hi;have h2:=hx.two;have hc1:=(zG4.tok (show 1<(uA us i).length by omega)).1;have hc0:=(zG4.tok (show 0<(uA us i).length by omega)).2;rw[Nat.zero_mul,Nat.add_zero]at hc0;rw[Nat.one_mul]at hc1;have H1:=zA (fun kd nm=>sV w a c ls us kd nm h hA);have HH:=zA (Vh w a c ls us (tA (uA us i) 1) h hA);have il:(1:Int)<((uA us i).length:Int):=by omega
 have il0:(0:Int)<((uA us i).length:Int):=by omega
 have fb:=fun kd nm=>dM (YB kd 1 nm) us 0;subst e0;rcases hx.kind with ⟨-,b,-⟩|⟨-,b⟩|⟨-,b,h3,-⟩|⟨-,b,w0,hw⟩
 all_goals have HB:=zA b
 ·have HR:Hid (xM us i=((decide (0<=yF us vE 1 (tA (uA us i) 1))&&decide (yF us vE 1 (tA (uA us i) 1)<(i:Int))) || ((decide (0<=yF us xA 1 (tA (uA us i) 1))&&decide (yF us xA 1 (tA (uA us i) 1)<(i:Int))) || jW us (tA (uA us i) 1)))):=by unfold Hid xM;rw[if_pos (.inl b)]
  have F1:Hid (Calls Tryz.prog 110 #[.slice (some ⟨gl,0,none⟩) us.length c,.string ⟨#[110,117,109]⟩,.int .i64 1,.string ⟨(tA (uA us i) 1).toArray⟩] w fun e w'=>e=.returned (.int .i64 (yF us vE 1 (tA (uA us i) 1)))/\w'=w):=H1.out vE _;have F2:Hid (Calls Tryz.prog 110 #[.slice (some ⟨gl,0,none⟩) us.length c,.string ⟨#[102,108,97,103]⟩,.int .i64 1,.string ⟨(tA (uA us i) 1).toArray⟩] w fun e w'=>e=.returned (.int .i64 (yF us xA 1 (tA (uA us i) 1)))/\w'=w):=H1.out xA _;rw[b]at hc0;simp only[vE]at hc0;clear h hA hx zG4 H1 b HB fb;generalize yF us vE 1 (tA (uA us i) 1)=f1 at *;generalize yF us xA 1 (tA (uA us i) 1)=f2 at *;generalize jW us (tA (uA us i) 1)=hd at *;generalize tA (uA us i) 1=nm at *
  go_enter Tryz.func132,Tryz.ntmps132
  go_wp2_with fail
  refine F1.out.mono ?_;rintro e w1 ⟨rfl,hw⟩;obtain rfl:=hw.symm;go_wp2_with fail
  refine F2.out.mono ?_;rintro e w1 ⟨rfl,hw⟩;obtain rfl:=hw.symm;by_cases j0:0<=f1
  ·by_cases j1:f1<(i:Int)
   ·have HR2:Hid (xM us i=true):=by unfold Hid;rw[HR.out,decide_eq_true j0,decide_eq_true j1];rfl
    clear HR;go_wp2_with fail
    go_ret
    exact⟨zE HR2.out.symm,rfl⟩
   ·have HR1:Hid (xM us i=((decide (0<=f2)&&decide (f2<(i:Int))) || hd)):=by unfold Hid;rw[HR.out,decide_eq_false j1,Bool.and_false,Bool.false_or]
    clear HR;by_cases j2:0<=f2
    ·by_cases j3:f2<(i:Int)
     ·have HR2:Hid (xM us i=true):=by unfold Hid;rw[HR1.out,decide_eq_true j2,decide_eq_true j3];rfl
      clear HR1;go_wp2_with fail
      go_ret
      exact⟨zE HR2.out.symm,rfl⟩
     ·have HR2:Hid (xM us i=hd):=by unfold Hid;rw[HR1.out,decide_eq_false j3,Bool.and_false,Bool.false_or]
      clear HR1;go_wp2_with fail
      refine HH.out.mono ?_;rintro e w1 ⟨rfl,hw⟩;obtain rfl:=hw.symm;go_wp2_with fail
      go_ret
      exact⟨zE (by first|exact HR2.out.symm|(rw[HR2.out];exact VF (by omega) (by omega))|(rw[HR2.out];exact zCT (by omega))),rfl⟩
    ·have HR2:Hid (xM us i=hd):=by unfold Hid;rw[HR1.out,decide_eq_false j2,Bool.false_and,Bool.false_or]
     clear HR1;go_wp2_with fail
     refine HH.out.mono ?_;rintro e w1 ⟨rfl,hw⟩;obtain rfl:=hw.symm;go_wp2_with fail
     go_ret
     exact⟨zE (by first|exact HR2.out.symm|(rw[HR2.out];exact VF (by omega) (by omega))|(rw[HR2.out];exact zCT (by omega))),rfl⟩
  ·have HR1:Hid (xM us i=((decide (0<=f2)&&decide (f2<(i:Int))) || hd)):=by unfold Hid;rw[HR.out,decide_eq_false j0,Bool.false_and,Bool.false_or]
   clear HR;by_cases j2:0<=f2
   ·by_cases j3:f2<(i:Int)
    ·have HR2:Hid (xM us i=true):=by unfold Hid;rw[HR1.out,decide_eq_true j2,decide_eq_true j3];rfl
     clear HR1;go_wp2_with fail
     go_ret
     exact⟨zE HR2.out.symm,rfl⟩
    ·have HR2:Hid (xM us i=hd):=by unfold Hid;rw[HR1.out,decide_eq_false j3,Bool.and_false,Bool.false_or]
     clear HR1;go_wp2_with fail
     refine HH.out.mono ?_;rintro e w1 ⟨rfl,hw⟩;obtain rfl:=hw.symm;go_wp2_with fail
     go_ret
     exact⟨zE (by first|exact HR2.out.symm|(rw[HR2.out];exact VF (by omega) (by omega))|(rw[HR2.out];exact zCT (by omega))),rfl⟩
   ·have HR2:Hid (xM us i=hd):=by unfold Hid;rw[HR1.out,decide_eq_false j2,Bool.false_and,Bool.false_or]
    clear HR1;go_wp2_with fail
    refine HH.out.mono ?_;rintro e w1 ⟨rfl,hw⟩;obtain rfl:=hw.symm;go_wp2_with fail
    go_ret
    exact⟨zE (by first|exact HR2.out.symm|(rw[HR2.out];exact VF (by omega) (by omega))|(rw[HR2.out];exact zCT (by omega))),rfl⟩
 ·have HR:Hid (xM us i=((decide (0<=yF us vE 1 (tA (uA us i) 1))&&decide (yF us vE 1 (tA (uA us i) 1)<(i:Int))) || ((decide (0<=yF us xA 1 (tA (uA us i) 1))&&decide (yF us xA 1 (tA (uA us i) 1)<(i:Int))) || jW us (tA (uA us i) 1)))):=by unfold Hid xM;rw[if_pos (.inr b)]
  have F1:Hid (Calls Tryz.prog 110 #[.slice (some ⟨gl,0,none⟩) us.length c,.string ⟨#[110,117,109]⟩,.int .i64 1,.string ⟨(tA (uA us i) 1).toArray⟩] w fun e w'=>e=.returned (.int .i64 (yF us vE 1 (tA (uA us i) 1)))/\w'=w):=H1.out vE _;have F2:Hid (Calls Tryz.prog 110 #[.slice (some ⟨gl,0,none⟩) us.length c,.string ⟨#[102,108,97,103]⟩,.int .i64 1,.string ⟨(tA (uA us i) 1).toArray⟩] w fun e w'=>e=.returned (.int .i64 (yF us xA 1 (tA (uA us i) 1)))/\w'=w):=H1.out xA _;rw[b]at hc0;simp only[xA]at hc0;clear h hA hx zG4 H1 b HB fb;generalize yF us vE 1 (tA (uA us i) 1)=f1 at *;generalize yF us xA 1 (tA (uA us i) 1)=f2 at *;generalize jW us (tA (uA us i) 1)=hd at *;generalize tA (uA us i) 1=nm at *
  go_enter Tryz.func132,Tryz.ntmps132
  go_wp2_with fail
  refine F1.out.mono ?_;rintro e w1 ⟨rfl,hw⟩;obtain rfl:=hw.symm;go_wp2_with fail
  refine F2.out.mono ?_;rintro e w1 ⟨rfl,hw⟩;obtain rfl:=hw.symm;by_cases j0:0<=f1
  ·by_cases j1:f1<(i:Int)
   ·have HR2:Hid (xM us i=true):=by unfold Hid;rw[HR.out,decide_eq_true j0,decide_eq_true j1];rfl
    clear HR;go_wp2_with fail
    go_ret
    exact⟨zE HR2.out.symm,rfl⟩
   ·have HR1:Hid (xM us i=((decide (0<=f2)&&decide (f2<(i:Int))) || hd)):=by unfold Hid;rw[HR.out,decide_eq_false j1,Bool.and_false,Bool.false_or]
    clear HR;by_cases j2:0<=f2
    ·by_cases j3:f2<(i:Int)
     ·have HR2:Hid (xM us i=true):=by unfold Hid;rw[HR1.out,decide_eq_true j2,decide_eq_true j3];rfl
      clear HR1;go_wp2_with fail
      go_ret
      exact⟨zE HR2.out.symm,rfl⟩
     ·have HR2:Hid (xM us i=hd):=by unfold Hid;rw[HR1.out,decide_eq_false j3,Bool.and_false,Bool.false_or]
      clear HR1;go_wp2_with fail
      refine HH.out.mono ?_;rintro e w1 ⟨rfl,hw⟩;obtain rfl:=hw.symm;go_wp2_with fail
      go_ret
      exact⟨zE (by first|exact HR2.out.symm|(rw[HR2.out];exact VF (by omega) (by omega))|(rw[HR2.out];exact zCT (by omega))),rfl⟩
    ·have HR2:Hid (xM us i=hd):=by unfold Hid;rw[HR1.out,decide_eq_false j2,Bool.false_and,Bool.false_or]
     clear HR1;go_wp2_with fail
     refine HH.out.mono ?_;rintro e w1 ⟨rfl,hw⟩;obtain rfl:=hw.symm;go_wp2_with fail
     go_ret
     exact⟨zE (by first|exact HR2.out.symm|(rw[HR2.out];exact VF (by omega) (by omega))|(rw[HR2.out];exact zCT (by omega))),rfl⟩
  ·have HR1:Hid (xM us i=((decide (0<=f2)&&decide (f2<(i:Int))) || hd)):=by unfold Hid;rw[HR.out,decide_eq_false j0,Bool.false_and,Bool.false_or]
   clear HR;by_cases j2:0<=f2
   ·by_cases j3:f2<(i:Int)
    ·have HR2:Hid (xM us i=true):=by unfold Hid;rw[HR1.out,decide_eq_true j2,decide_eq_true j3];rfl
     clear HR1;go_wp2_with fail
     go_ret
     exact⟨zE HR2.out.symm,rfl⟩
    ·have HR2:Hid (xM us i=hd):=by unfold Hid;rw[HR1.out,decide_eq_false j3,Bool.and_false,Bool.false_or]
     clear HR1;go_wp2_with fail
     refine HH.out.mono ?_;rintro e w1 ⟨rfl,hw⟩;obtain rfl:=hw.symm;go_wp2_with fail
     go_ret
     exact⟨zE (by first|exact HR2.out.symm|(rw[HR2.out];exact VF (by omega) (by omega))|(rw[HR2.out];exact zCT (by omega))),rfl⟩
   ·have HR2:Hid (xM us i=hd):=by unfold Hid;rw[HR1.out,decide_eq_false j2,Bool.false_and,Bool.false_or]
    clear HR1;go_wp2_with fail
    refine HH.out.mono ?_;rintro e w1 ⟨rfl,hw⟩;obtain rfl:=hw.symm;go_wp2_with fail
    go_ret
    exact⟨zE (by first|exact HR2.out.symm|(rw[HR2.out];exact VF (by omega) (by omega))|(rw[HR2.out];exact zCT (by omega))),rfl⟩
 ·have HR:Hid (xM us i=(decide (yF us zW 1 (tA (uA us i) 1)<0) || decide (yF us zW 1 (tA (uA us i) 2)<0))):=by
   unfold Hid xM;rw[if_neg (show ¬(cA (uA us i) 0=vE\/cA (uA us i) 0=xA) by rw[b];decide),if_pos b]
  have hc2:=(zG4.tok (show 2<(uA us i).length by omega)).1;rw[show 2*3=6 from rfl]at hc2;have F1:Hid (Calls Tryz.prog 110 #[.slice (some ⟨gl,0,none⟩) us.length c,.string ⟨#[114,117,108,101]⟩,.int .i64 1,.string ⟨(tA (uA us i) 1).toArray⟩] w fun e w'=>e=.returned (.int .i64 (yF us zW 1 (tA (uA us i) 1)))/\w'=w):=H1.out zW _;have F2:Hid (Calls Tryz.prog 110 #[.slice (some ⟨gl,0,none⟩) us.length c,.string ⟨#[114,117,108,101]⟩,.int .i64 1,.string ⟨(tA (uA us i) 2).toArray⟩] w fun e w'=>e=.returned (.int .i64 (yF us zW 1 (tA (uA us i) 2)))/\w'=w):=H1.out zW _;rw[b]at hc0;simp only[tW]at hc0;have il2:(2:Int)<((uA us i).length:Int):=by omega
  clear h hA hx zG4 H1 b HB fb HH;generalize yF us zW 1 (tA (uA us i) 1)=f1 at *;generalize yF us zW 1 (tA (uA us i) 2)=f2 at *;generalize tA (uA us i) 1=nm at *;generalize tA (uA us i) 2=nm2 at *
  go_enter Tryz.func132,Tryz.ntmps132
  go_wp2_with fail
  refine F1.out.mono ?_;rintro e w1 ⟨rfl,hw⟩;obtain rfl:=hw.symm;by_cases j0:f1<0
  ·have HR2:Hid (xM us i=true):=by unfold Hid;rw[HR.out,decide_eq_true j0];rfl
   clear HR;go_wp2_with fail
   go_ret
   exact⟨zE HR2.out.symm,rfl⟩
  ·have HR2:Hid (xM us i=decide (f2<0)):=by unfold Hid;rw[HR.out,decide_eq_false j0];rfl
   clear HR;have j1:decide (f1<0)=false:=decide_eq_false j0;go_wp2_with fail
   refine F2.out.mono ?_;rintro e w1 ⟨rfl,hw⟩;obtain rfl:=hw.symm;go_wp2_with fail
   go_ret
   exact⟨zE HR2.out.symm,rfl⟩
 ·have HR:Hid (xM us i=(decide (yF us zW 1 (tA (uA us i) 1)<(i:Int)) || nJ us (uA us i) ((uA us i).length-5) 5)):=by
   unfold Hid xM;rw[if_neg (show ¬(cA (uA us i) 0=vE\/cA (uA us i) 0=xA) by rw[b];decide),if_neg (show ¬cA (uA us i) 0=tW by rw[b];decide)]
  have F1:Hid (Calls Tryz.prog 110 #[.slice (some ⟨gl,0,none⟩) us.length c,.string ⟨#[114,117,108,101]⟩,.int .i64 1,.string ⟨(tA (uA us i) 1).toArray⟩] w fun e w'=>e=.returned (.int .i64 (yF us zW 1 (tA (uA us i) 1)))/\w'=w):=H1.out zW _;have HFt:=zA (fun k (h1:1<=k) (h2:k<(uA us i).length)=>zEE w (some ⟨gl,0,none⟩) c ls us (uA us i) g o cu k w0 h hA zG4 hsm hlc h1 h2 hw.wB);have HSg:=zA zG4;have hwlo:=hw.wlo;have hwhi:=hw.whi;rw[b]at hc0;simp only[zW]at hc0;clear h hA hx zG4 H1 b HB fb HH hw;generalize yF us zW 1 (tA (uA us i) 1)=f1 at *;generalize tA (uA us i) 1=nm at *;generalize uA us i=u at *
  go_enter Tryz.func132,Tryz.ntmps132
  go_wp2_with fail
  refine F1.out.mono ?_;rintro e w1 ⟨rfl,hw⟩;obtain rfl:=hw.symm;by_cases j0:f1<(i:Int)
  ·have HR2:Hid (xM us i=true):=by unfold Hid;rw[HR.out,decide_eq_true j0];rfl
   clear HR;go_wp2_with fail
   go_ret
   exact⟨zE HR2.out.symm,rfl⟩
  ·have HR2:Hid (xM us i=nJ us u (u.length-5) 5):=by unfold Hid;rw[HR.out,decide_eq_false j0];rfl
   clear HR;go_wp2_with fail
   go_loop [9] (fun kv=>∃(k:Nat),5<=k/\k<=u.length/\kv=.int .i64 k/\Hid (nJ us u (u.length-k) k=nJ us u (u.length-5) 5)) (fun kv=>u.length-(intOf kv).toNat)
   case atStart=>exact⟨5,Nat.le_refl _,by omega,rfl,zA rfl⟩
   case round =>
    obtain⟨k,hk5,hk,rfl,HE⟩:=hrel;by_cases zFZ:k<u.length
    ·have hck:=(HSg.out.tok zFZ).2
     have hE:=HE.out;rw[Gu us u k zFZ]at hE;have HE2:=zA hE;have HFk:=zA (HFt.out k (by omega) zFZ);have ikl:(k:Int)<(u.length:Int):=by omega
     clear HE hE;generalize lQ us u k=z at *;generalize cA u k=cl at *;by_cases kn:cl=yQ
     ·have bn:(cl==[78,65,77,69])=true:=by simpa[yQ] using kn
      cases z
      ·have HR3:Hid (xM us i=true):=by unfold Hid;rw[HR2.out,<-HE2.out,if_pos ⟨kn,rfl⟩]
       clear HE2 kn;go_wp2_with fail
       refine HFk.out.mono ?_;rintro e w1 ⟨rfl,hw⟩;obtain rfl:=hw.symm;go_wp2_with fail
       go_ret
       exact⟨zE HR3.out.symm,rfl⟩
      ·have HE3:Hid (nJ us u (u.length-(k+1)) (k+1)=nJ us u (u.length-5) 5):=by have:=HE2.out;rw[if_neg (fun h=>absurd h.2 (by decide))]at this;exact this
       clear HE2 kn;go_wp2_with fail
       refine HFk.out.mono ?_;rintro e w1 ⟨rfl,hw⟩;obtain rfl:=hw.symm;go_wp2_with fail
       go_round
       case rel=>exact⟨k+1,by omega,by omega,by go_num,HE3⟩
       case measure=>simp[intOf];omega
     ·have bn:(cl==[78,65,77,69])=false:=by simpa[yQ] using kn
      have HE3:Hid (nJ us u (u.length-(k+1)) (k+1)=nJ us u (u.length-5) 5):=by have:=HE2.out;rw[if_neg (fun h=>kn h.1)]at this;exact this
      clear HE2 kn;go_wp2_with fail
      go_round
      case rel=>exact⟨k+1,by omega,by omega,by go_num,HE3⟩
      case measure=>simp[intOf];omega
    ·have HR3:Hid (xM us i=false):=by unfold Hid;rw[HR2.out,<-HE.out,qv us u k zFZ]
     clear HE;go_wp2_with fail
     go_ret
     exact⟨zE HR3.out.symm,rfl⟩
theorem zBP(w:World)(a:Option Addr)(c:Nat)(ls:List zH)(us:List zI)(i:Nat)(hi:i<us.length)(h:lV w a us)(hA:yX ls us) :
 Calls Tryz.prog 76 #[.slice a us.length c,.int .i64 i] w fun e w'=>e=.returned (.int .i64 (jM us i))/\Below w.heap.size w w':=by
 have HNm:=zA (zAN w a c ls us i hi h hA);have hx:=hA.get i hi;have zGH:=h.few;obtain⟨gl,g,o,cu,e0,zGI,zG4,hlc,hcm,hsm⟩:=h.at hi;have h2:=hx.two;have hc1:=(zG4.tok (show 1<(uA us i).length by omega)).1;have hc0:=(zG4.tok (show 0<(uA us i).length by omega)).2;rw[Nat.zero_mul,Nat.add_zero]at hc0;rw[Nat.one_mul]at hc1;have il:(1:Int)<((uA us i).length:Int):=by omega
 have il0:(0:Int)<((uA us i).length:Int):=by omega
 have HR:Hid (jM us i=if xM us i=true then 4 else if cA (uA us i) 0=vE then (if xH 0 (tA (uA us i) 4)<xH 0 (tA (uA us i) 2) then 5 else 0) else if cA (uA us i) 0=tW then (if QE us (uA us i)=true then 6 else 0) else 0):=rfl;subst e0;cases hn:xM us i
 rotate_left
 ·rw[hn]at HNm
  have HR2:Hid (jM us i=4):=by unfold Hid;rw[HR.out,hn,if_pos rfl]
  clear h hA hx zG4 HR hn
  go_enter Tryz.func76,Tryz.ntmps76
  go_wp2_with fail
  refine HNm.out.mono ?_;rintro e w1 ⟨rfl,hw⟩;obtain rfl:=hw.symm;go_wp2_with fail
  go_ret
  exact⟨yA HR2.out.symm,Below.refl _ _⟩
 have HR1:Hid (jM us i=if cA (uA us i) 0=vE then (if xH 0 (tA (uA us i) 4)<xH 0 (tA (uA us i) 2) then 5 else 0) else if cA (uA us i) 0=tW then (if QE us (uA us i)=true then 6 else 0) else 0):=by unfold Hid;rw[HR.out,hn,if_neg Bool.false_ne_true]
 rcases hx.kind with ⟨-,b,h5,n2,n4,-⟩|⟨-,b⟩|⟨-,b,h3,-⟩|⟨-,b,w0,hw⟩
 ·rw[hn]at HNm
  have hc2:=(zG4.tok (show 2<(uA us i).length by omega)).1;have hc4:=(zG4.tok (show 4<(uA us i).length by omega)).1;rw[show 2*3=6 from rfl]at hc2;rw[show 4*3=12 from rfl]at hc4;have HN2:=zA (fun w'=>mP (tA (uA us i) 2) w' (jQ n2));have HN4:=zA (fun w'=>mP (tA (uA us i) 4) w' (jQ n4));have HR2:Hid (jM us i=if xH 0 (tA (uA us i) 4)<xH 0 (tA (uA us i) 2) then 5 else 0):=by unfold Hid;rw[HR1.out,if_pos b]
  rw[b]at hc0;simp only[vE]at hc0;have il2:(2:Int)<((uA us i).length:Int):=by omega
  have il4:(4:Int)<((uA us i).length:Int):=by omega
  clear h hA hx zG4 HR HR1 hn b n2 n4;generalize xH 0 (tA (uA us i) 4)=v4 at *;generalize xH 0 (tA (uA us i) 2)=v2 at *;generalize tA (uA us i) 2=t2 at *;generalize tA (uA us i) 4=t4 at *
  go_enter Tryz.func76,Tryz.ntmps76
  go_wp2_with fail
  refine HNm.out.mono ?_;rintro e w1 ⟨rfl,hw⟩;obtain rfl:=hw.symm;go_wp2_with fail
  go_quiet (first
   | (go_at_call_of 130 (Value.string ⟨t2.toArray⟩);refine Calls.quiet_of_same (HN2.out _))
   | (go_at_call_of 130 (Value.string ⟨t4.toArray⟩);refine Calls.quiet_of_same (HN4.out _)))
  by_cases hv:v4<v2
  ·have HR3:Hid (jM us i=5):=by unfold Hid;rw[HR2.out,if_pos hv]
   clear HR2;go_wp2_with fail
   go_ret
   exact⟨yA HR3.out.symm,yE (Below.refl _ _) _⟩
  ·have HR3:Hid (jM us i=0):=by unfold Hid;rw[HR2.out,if_neg hv]
   clear HR2;go_wp2_with fail
   go_ret
   exact⟨yA HR3.out.symm,yE (Below.refl _ _) _⟩
 ·rw[hn]at HNm
  have HR2:Hid (jM us i=0):=by unfold Hid;rw[HR1.out,if_neg (by rw[b];decide),if_neg (by rw[b];decide)]
  rw[b]at hc0;simp only[xA]at hc0;clear h hA hx zG4 HR HR1 hn b
  go_enter Tryz.func76,Tryz.ntmps76
  go_wp2_with fail
  refine HNm.out.mono ?_;rintro e w1 ⟨rfl,hw⟩;obtain rfl:=hw.symm;go_wp2_with fail
  go_ret
  exact⟨yA HR2.out.symm,Below.refl _ _⟩
 ·have hnm:(decide (yF us zW 1 (tA (uA us i) 1)<0) || decide (yF us zW 1 (tA (uA us i) 2)<0))=false:=by
   rw[<-hn];unfold xM;rw[if_neg (show ¬(cA (uA us i) 0=vE\/cA (uA us i) 0=xA) by rw[b];decide),if_pos b]
  rw[Bool.or_eq_false_iff,decide_eq_false_iff_not,decide_eq_false_iff_not]at hnm;obtain⟨f1,e1,hf1,hl1⟩:=QX hA (show 0<=yF us zW 1 (tA (uA us i) 1) by omega);obtain⟨f2,e2,hf2,hl2⟩:=QX hA (show 0<=yF us zW 1 (tA (uA us i) 2) by omega);rw[hn]at HNm
  have HR2:Hid (jM us i=if (decide (tA (uA us i) 1=tA (uA us i) 2) || !decide (tA (uA us f1) 3=tA (uA us f2) 3))=true then 6 else 0):=by
   unfold Hid;rw[HR1.out,if_neg (show ¬cA (uA us i) 0=vE by rw[b];decide),if_pos b];unfold QE;rw[e1,e2];rfl
  have F1:Hid (Calls Tryz.prog 110 #[.slice (some ⟨gl,0,none⟩) us.length c,.string ⟨#[114,117,108,101]⟩,.int .i64 1,.string ⟨(tA (uA us i) 1).toArray⟩] w fun e w'=>e=.returned (.int .i64 f1)/\w'=w):=by
   have:=sV w (some ⟨gl,0,none⟩) c ls us zW (tA (uA us i) 1) h hA;rw[e1]at this;exact this
  have F2:Hid (Calls Tryz.prog 110 #[.slice (some ⟨gl,0,none⟩) us.length c,.string ⟨#[114,117,108,101]⟩,.int .i64 1,.string ⟨(tA (uA us i) 2).toArray⟩] w fun e w'=>e=.returned (.int .i64 f2)/\w'=w):=by
   have:=sV w (some ⟨gl,0,none⟩) c ls us zW (tA (uA us i) 2) h hA;rw[e2]at this;exact this
  have hc2:=(zG4.tok (show 2<(uA us i).length by omega)).1;rw[show 2*3=6 from rfl]at hc2;obtain⟨gl1,g1,o1,cu1,eg1,hcell1,hseg1,hlc1,_,_⟩:=h.at hf1;obtain⟨gl2,g2,o2,cu2,eg2,hcell2,hseg2,hlc2,_,_⟩:=h.at hf2;obtain rfl:gl=gl1:=by simpa using eg1
  obtain rfl:gl=gl2:=by simpa using eg2
  have hd1:=(hseg1.tok (show 3<(uA us f1).length by omega)).1;have hd2:=(hseg2.tok (show 3<(uA us f2).length by omega)).1;rw[show 3*3=9 from rfl]at hd1 hd2;rw[b]at hc0;simp only[tW]at hc0;have il2:(2:Int)<((uA us i).length:Int):=by omega
  have jf1:(f1:Int)<(us.length:Int):=by omega
  have jf2:(f2:Int)<(us.length:Int):=by omega
  have jl1:(3:Int)<((uA us f1).length:Int):=by omega
  have jl2:(3:Int)<((uA us f2).length:Int):=by omega
  clear h hA hx zG4 hseg1 hseg2 HR HR1 hn b hnm e1 e2 eg1 eg2;generalize tA (uA us i) 1=t1 at *;generalize tA (uA us i) 2=t2 at *;generalize tA (uA us f1) 3=s1 at *;generalize tA (uA us f2) 3=s2 at *
  go_enter Tryz.func76,Tryz.ntmps76
  go_wp2_with fail
  refine HNm.out.mono ?_;rintro e w1 ⟨rfl,hw⟩;obtain rfl:=hw.symm;go_wp2_with fail
  refine F1.out.mono ?_;rintro e w1 ⟨rfl,hw⟩;obtain rfl:=hw.symm;go_wp2_with fail
  refine F2.out.mono ?_;rintro e w1 ⟨rfl,hw⟩;obtain rfl:=hw.symm;go_wp2_with fail
  by_cases kt:t1=t2
  ·have HR3:Hid (jM us i=6):=by unfold Hid;rw[HR2.out,decide_eq_true kt];rfl
   have bt:(t1==t2)=true:=by simpa using kt
   clear HR2 kt
   go_quiet (fail)
   go_wp2_with fail
   go_ret
   exact⟨yA HR3.out.symm,yE (Below.refl _ _) _⟩
  have bt:(t1==t2)=false:=by simpa using kt
  by_cases ks:s1=s2
  ·have HR3:Hid (jM us i=0):=by unfold Hid;rw[HR2.out,decide_eq_false kt,decide_eq_true ks];rfl
   have bs:(s1==s2)=true:=by simpa using ks
   clear HR2 kt ks
   go_quiet (fail)
   go_wp2_with fail
   go_ret
   exact⟨yA HR3.out.symm,yE (Below.refl _ _) _⟩
  ·have HR3:Hid (jM us i=6):=by unfold Hid;rw[HR2.out,decide_eq_false kt,decide_eq_false ks];rfl
   have bs:(s1==s2)=false:=by simpa using ks
   clear HR2 kt ks
   go_quiet (fail)
   go_wp2_with fail
   go_ret
   exact⟨yA HR3.out.symm,yE (Below.refl _ _) _⟩
 ·rw[hn]at HNm
  have HR2:Hid (jM us i=0):=by unfold Hid;rw[HR1.out,if_neg (by rw[b];decide),if_neg (by rw[b];decide)]
  rw[b]at hc0;simp only[zW]at hc0;clear h hA hx zG4 HR HR1 hn b hw
  go_enter Tryz.func76,Tryz.ntmps76
  go_wp2_with fail
  refine HNm.out.mono ?_;rintro e w1 ⟨rfl,hw⟩;obtain rfl:=hw.symm;go_wp2_with fail
  go_ret
  exact⟨yA HR2.out.symm,Below.refl _ _⟩
end Go.Proofs.YtnbpdffdnphbeaaGreatDoor
