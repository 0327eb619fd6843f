import Derived.Test.YtnbpdffdnphbeaaGreatDoorRfBase
import Derived.Test.YtnbpdffdnphbeaaGreatDoorCkErr2
set_option maxHeartbeats 4000000
namespace Go.Proofs.YtnbpdffdnphbeaaGreatDoor
open Go.RowKit
variable(w:World)(a:Option Addr)(c n:Nat)(ls:List zF)(us:List zG)(u:zG)(k i:Nat)
def zE2:Bs:=[60,32,60,61,32,61,32,33,61,32,62,61,32,62]
theorem yq(s:Bs):xY zE2 s=decide (s∈jC):=by
 rw[aR,show gF zE2 (zE2.length+1) 0 0=jC by decide]
theorem UI(s:Bs)(w:World):Calls Tryz.prog 180 #[.string ⟨#[60,32,60,61,32,61,32,33,61,32,62,61,32,62]⟩,.string ⟨s.toArray⟩] w fun e w'=>e=.returned (.bool (decide (s∈jC)))/\w'=w:=by
 have:=nT zE2 s w (by decide);rw[yq]at this;exact this
theorem zGL(g o cu k w0:Nat)(h:bG w a us)(hA:yP ls us)(hs:kL w g o u)(hsm:u.length<=10000)(hcu:u.length<=cu)(hk1:1<=k)(hk:k<u.length)(hw0:mE u=w0) :
 Calls Tryz.prog 192 #[.slice a us.length c,.slice (some ⟨g,o,none⟩) u.length cu,.int .i64 k] w fun e w'=>e=.returned (.bool (bB us u k))/\w'=w:=by
 have HN:=zA (DQ w a c ls us (tA u k) h hA);have HF:=zA (Ua w a c ls us (tA u k) h hA);have HH:=zA (VZ w a c ls us (tA u k) h hA);have HW:=zA (wC u g o cu w hs hsm hcu);rw[hw0]at HW;have hwA:iZ u=w0:=by unfold iZ;rw[hw0];rfl
 obtain⟨k',rfl⟩:∃k',k=k'+1:=⟨k-1,by omega⟩;have hck:=(hs.tok hk).1;have hcp:=(hs.tok (show k'<u.length by omega)).2;have HCn:=zA (fun h1:k'+1+1<u.length=>(hs.tok h1).2);have ikl:((k':Int)+1)<(u.length:Int):=by omega
 have ikl2:(k':Int)<(u.length:Int):=by omega
 by_cases kw:k'+1<w0
 ·have HR:Hid (bB us u (k'+1)=(tF us (tA u (k'+1)) || tG us (tA u (k'+1)))):=by unfold Hid bB XT;rw[hwA,tl kw];rfl
  clear h hA hs hw0 hwA HF HCn hcp;generalize tF us (tA u (k'+1))=p at *;generalize tG us (tA u (k'+1))=q at *;generalize tA u (k'+1)=tt at *;cases p
  ·go_enter Tryz.func192,Tryz.ntmps192
   go_wp2_with fail
   refine HW.out.mono ?_;rintro e w1 ⟨rfl,hw⟩;obtain rfl:=hw.symm;go_wp2_with fail
   refine HN.out.mono ?_;rintro e w1 ⟨rfl,hw⟩;obtain rfl:=hw.symm;go_wp2_with fail
   refine HH.out.mono ?_;rintro e w1 ⟨rfl,hw⟩;obtain rfl:=hw.symm;go_wp2_with fail
   go_ret
   exact⟨zE HR.out.symm,rfl⟩
  ·go_enter Tryz.func192,Tryz.ntmps192
   go_wp2_with fail
   refine HW.out.mono ?_;rintro e w1 ⟨rfl,hw⟩;obtain rfl:=hw.symm;go_wp2_with fail
   refine HN.out.mono ?_;rintro e w1 ⟨rfl,hw⟩;obtain rfl:=hw.symm;go_wp2_with fail
   go_ret
   exact⟨zE HR.out.symm,rfl⟩
 have HR0:Hid (bB us u (k'+1)=xa us (mW (cA u k') (D9 u (k'+1)),tA u (k'+1))):=by unfold Hid bB XT;rw[hwA,tg kw];rfl
 clear h hA hs hw0 hwA;generalize hcl:cA u k'=cl at *;clear hcl;by_cases kh:cl=[104,97,115]
 ·subst kh
  have HR:Hid (bB us u (k'+1)=tG us (tA u (k'+1))):=by unfold Hid;rw[HR0.out,show mW [104,97,115] (D9 u (k'+1))=1 from tl rfl];rfl
  clear HR0 HN HF HCn;generalize tG us (tA u (k'+1))=q at *;generalize tA u (k'+1)=tt at *
  go_enter Tryz.func192,Tryz.ntmps192
  go_wp2_with fail
  refine HW.out.mono ?_;rintro e w1 ⟨rfl,hw⟩;obtain rfl:=hw.symm;go_wp2_with fail
  refine HH.out.mono ?_;rintro e w1 ⟨rfl,hw⟩;obtain rfl:=hw.symm;go_wp2_with fail
  go_ret
  exact⟨zE HR.out.symm,rfl⟩
 have bh:(cl==[104,97,115])=false:=by simpa using kh
 have HA1:=zA (UI cl w);by_cases kc:cl∈jC
 ·have HR:Hid (bB us u (k'+1)=tF us (tA u (k'+1))):=by unfold Hid;rw[HR0.out,Zb kh (.inl kc)];rfl
  rw[tm kc]at HA1;clear HR0 HH HF HCn kh kc;generalize tF us (tA u (k'+1))=q at *;generalize tA u (k'+1)=tt at *
  go_enter Tryz.func192,Tryz.ntmps192
  go_wp2_with fail
  refine HW.out.mono ?_;rintro e w1 ⟨rfl,hw⟩;obtain rfl:=hw.symm;go_wp2_with fail
  refine HA1.out.mono ?_;rintro e w1 ⟨rfl,hw⟩;obtain rfl:=hw.symm;go_wp2_with fail
  refine HN.out.mono ?_;rintro e w1 ⟨rfl,hw⟩;obtain rfl:=hw.symm;go_wp2_with fail
  go_ret
  exact⟨zE HR.out.symm,rfl⟩
 rw[th kc]at HA1;by_cases kn:k'+1+1<u.length
 ·have hcn:=HCn.out kn
  have hnx:D9 u (k'+1)=cA u (k'+1+1):=by unfold D9;rw[tl kn]
  rw[hnx]at HR0;have HA2:=zA (UI (cA u (k'+1+1)) w);have ikn:((k':Int)+1+1)<(u.length:Int):=by omega
  generalize hcl2:cA u (k'+1+1)=cl2 at *;clear hcl2 hnx HCn;by_cases kc2:cl2∈jC
  ·have HR:Hid (bB us u (k'+1)=tF us (tA u (k'+1))):=by unfold Hid;rw[HR0.out,Zb kh (.inr kc2)];rfl
   rw[tm kc2]at HA2;clear HR0 HH HF kh kc kc2;generalize tF us (tA u (k'+1))=q at *;generalize tA u (k'+1)=tt at *
   go_enter Tryz.func192,Tryz.ntmps192
   go_wp2_with fail
   refine HW.out.mono ?_;rintro e w1 ⟨rfl,hw⟩;obtain rfl:=hw.symm;go_wp2_with fail
   refine HA1.out.mono ?_;rintro e w1 ⟨rfl,hw⟩;obtain rfl:=hw.symm;go_wp2_with fail
   refine HA2.out.mono ?_;rintro e w1 ⟨rfl,hw⟩;obtain rfl:=hw.symm;go_wp2_with fail
   refine HN.out.mono ?_;rintro e w1 ⟨rfl,hw⟩;obtain rfl:=hw.symm;go_wp2_with fail
   go_ret
   exact⟨zE HR.out.symm,rfl⟩
  ·have HR:Hid (bB us u (k'+1)=tH us (tA u (k'+1))):=by unfold Hid;rw[HR0.out,Kr ⟨kh,kc⟩ kc2];rfl
   rw[th kc2]at HA2;clear HR0 HH HN kh kc kc2;generalize tH us (tA u (k'+1))=q at *;generalize tA u (k'+1)=tt at *
   go_enter Tryz.func192,Tryz.ntmps192
   go_wp2_with fail
   refine HW.out.mono ?_;rintro e w1 ⟨rfl,hw⟩;obtain rfl:=hw.symm;go_wp2_with fail
   refine HA1.out.mono ?_;rintro e w1 ⟨rfl,hw⟩;obtain rfl:=hw.symm;go_wp2_with fail
   refine HA2.out.mono ?_;rintro e w1 ⟨rfl,hw⟩;obtain rfl:=hw.symm;go_wp2_with fail
   refine HF.out.mono ?_;rintro e w1 ⟨rfl,hw⟩;obtain rfl:=hw.symm;go_wp2_with fail
   go_ret
   exact⟨zE HR.out.symm,rfl⟩
 ·have hnx:D9 u (k'+1)=[]:=by unfold D9;rw[tg kn]
  have HR:Hid (bB us u (k'+1)=tH us (tA u (k'+1))):=by unfold Hid;rw[HR0.out,hnx,Kr ⟨kh,kc⟩ (by decide)];rfl
  have ikn:(u.length:Int)<=(k':Int)+1+1:=by omega
  clear HR0 HH HN kh kc HCn hnx;generalize tH us (tA u (k'+1))=q at *;generalize tA u (k'+1)=tt at *
  go_enter Tryz.func192,Tryz.ntmps192
  go_wp2_with fail
  refine HW.out.mono ?_;rintro e w1 ⟨rfl,hw⟩;obtain rfl:=hw.symm;go_wp2_with fail
  refine HA1.out.mono ?_;rintro e w1 ⟨rfl,hw⟩;obtain rfl:=hw.symm;go_wp2_with fail
  refine HF.out.mono ?_;rintro e w1 ⟨rfl,hw⟩;obtain rfl:=hw.symm;go_wp2_with fail
  go_ret
  exact⟨zE HR.out.symm,rfl⟩
theorem kV{a b c d:Int}(h:a=c)(k:b=d):Ending.returned (.tuple #[.int .i64 a,.int .i64 b])=.returned (.tuple #[.int .i64 c,.int .i64 d]):=by rw[h,k]
def KL(n:Nat):Prop:=∀(ts:zG) (g o cap:Nat) (w:World),kL w g o ts->ts.length<=10000->ts.length<=cap->cap<=maxLen->qN n ts=true ->
    Calls Tryz.prog 131 #[.slice (some ⟨g,o,none⟩) ts.length cap] w fun e w'=>e=.returned (.tuple #[.int .i64 (yD n ts).1,.int .i64 (yD n ts).2])/\w'=w
theorem Fw(ih:KL n)(ts:zG)(g o cap:Nat)(w:World)(hs:kL w g o ts)(zIJ:ts.length<=10000)(hc:ts.length<=cap)(hm:cap<=maxLen)(hg:qN (n+1) ts=true)(ho:0<=yF ts xW) :
 Calls Tryz.prog 131 #[.slice (some ⟨g,o,none⟩) ts.length cap] w fun e w'=>e=.returned (.tuple #[.int .i64 (yD (n+1) ts).1,.int .i64 (yD (n+1) ts).2])/\w'=w:=by
 obtain⟨k,hk⟩:=bq ho;have hb:=xR ts xW;rw[qN,tl ho,hk,Int.toNat_natCast,tz]at hg;have hd:=nL hg.2;rw[ty]at hd;have HA:=ih (ts.take k) g o cap w (hs.take k) (by rw[p9];omega) (by rw[p9];omega) hm hg.1;have HB:=ih (ts.drop (k+1)) g (o+(k+1)*3) (cap-(k+1)) w (hs.drop (k+1)) (by rw[ty];omega) (by rw[ty];omega) (by omega) hg.2;have la:=tM n (ts.take k);have lb:=tM n (ts.drop (k+1))
 have HR:Hid (yD (n+1) ts=pV (yD n (ts.take k)) (yD n (ts.drop (k+1)))):=by
  unfold Hid;rw[yD,tl ho,hk,Int.toNat_natCast]
 rw[p9,da (by omega)]at HA la;rw[ty]at HB lb;generalize yD n (ts.take k)=a at *;generalize yD n (ts.drop (k+1))=b at *;obtain⟨a1,a2⟩:=a;obtain⟨b1,b2⟩:=b;simp only[pV]at HA HB HR la lb;have HA':=sJ HA;have HB':=sJ HB;have HO:Hid (yF ts xW=k):=hk;have hk2:k+1<ts.length:=by omega
 have HS:Hid (kL w g o ts):=hs;have i1 : -20000<=a1+b1:=by omega
 have i2:a1+b1<=20002:=by omega
 clear HA HB hg hs hb hk ho ih hd la lb;by_cases kz:a2<b2
 ·have HR2:Hid (yD (n+1) ts=(a1+b1,b2)):=by have h1:=HR.out;rw[tl kz]at h1;exact h1
  clear HR
  go_enter Tryz.func131,Tryz.ntmps131
  go_wp2_with fail
  refine(yN ts xW g o cap _ HS.out (by omega) hc).mono ?_;rintro e w' ⟨rfl,hw⟩;obtain rfl:=hw.symm;rw[HO.out];go_wp2_with fail
  refine HA'.out.mono ?_;rintro e w' ⟨rfl,hw⟩;obtain rfl:=hw.symm;go_wp2_with fail
  refine HB'.out.mono ?_;rintro e w' ⟨rfl,hw⟩;obtain rfl:=hw.symm;go_wp2_with fail
  go_ret2
  exact⟨kV (by rw[HR2.out]) (by rw[HR2.out]),rfl⟩
 ·have HR2:Hid (yD (n+1) ts=(a1+b1,a2)):=by have h1:=HR.out;rw[tg kz]at h1;exact h1
  clear HR
  go_enter Tryz.func131,Tryz.ntmps131
  go_wp2_with fail
  refine(yN ts xW g o cap _ HS.out (by omega) hc).mono ?_;rintro e w' ⟨rfl,hw⟩;obtain rfl:=hw.symm;rw[HO.out];go_wp2_with fail
  refine HA'.out.mono ?_;rintro e w' ⟨rfl,hw⟩;obtain rfl:=hw.symm;go_wp2_with fail
  refine HB'.out.mono ?_;rintro e w' ⟨rfl,hw⟩;obtain rfl:=hw.symm;go_wp2_with fail
  go_ret2
  exact⟨kV (by rw[HR2.out]) (by rw[HR2.out]),rfl⟩
theorem Bk(ih:KL n)(ts:zG)(g o cap:Nat)(w:World)(hs:kL w g o ts)(zIJ:ts.length<=10000)(hc:ts.length<=cap)(hm:cap<=maxLen)(hg:qN (n+1) ts=true)(hor:¬ 0<=yF ts xW)(ho:0<=yF ts yE) :
 Calls Tryz.prog 131 #[.slice (some ⟨g,o,none⟩) ts.length cap] w fun e w'=>e=.returned (.tuple #[.int .i64 (yD (n+1) ts).1,.int .i64 (yD (n+1) ts).2])/\w'=w:=by
 obtain⟨k,hk⟩:=bq ho;have hb:=xR ts yE;have hbo:=xR ts xW;have HO1:Hid (yF ts xW = -1):=by unfold Hid;omega
 rw[qN,tg hor,tl ho,hk,Int.toNat_natCast,tz]at hg;have hd:=nL hg.2;rw[ty]at hd;have HA:=ih (ts.take k) g o cap w (hs.take k) (by rw[p9];omega) (by rw[p9];omega) hm hg.1;have HB:=ih (ts.drop (k+1)) g (o+(k+1)*3) (cap-(k+1)) w (hs.drop (k+1)) (by rw[ty];omega) (by rw[ty];omega) (by omega) hg.2;have la:=tM n (ts.take k);have lb:=tM n (ts.drop (k+1))
 have HR:Hid (yD (n+1) ts=pV (yD n (ts.take k)) (yD n (ts.drop (k+1)))):=by
  unfold Hid;rw[yD,tg hor,tl ho,hk,Int.toNat_natCast]
 rw[p9,da (by omega)]at HA la;rw[ty]at HB lb;generalize yD n (ts.take k)=a at *;generalize yD n (ts.drop (k+1))=b at *;obtain⟨a1,a2⟩:=a;obtain⟨b1,b2⟩:=b;simp only[pV]at HA HB HR la lb;have HA':=sJ HA;have HB':=sJ HB;have HO:Hid (yF ts yE=k):=hk;have hk2:k+1<ts.length:=by omega
 have HS:Hid (kL w g o ts):=hs;have i1 : -20000<=a1+b1:=by omega
 have i2:a1+b1<=20002:=by omega
 clear HA HB hg hs hb hbo hk ho hor ih hd la lb;by_cases kz:a2<b2
 ·have HR2:Hid (yD (n+1) ts=(a1+b1,b2)):=by have h1:=HR.out;rw[tl kz]at h1;exact h1
  clear HR
  go_enter Tryz.func131,Tryz.ntmps131
  go_wp2_with fail
  refine(yN ts xW g o cap _ HS.out (by omega) hc).mono ?_;rintro e w' ⟨rfl,hw⟩;obtain rfl:=hw.symm;rw[HO1.out];go_wp2_with fail
  refine(yN ts yE g o cap _ HS.out (by omega) hc).mono ?_;rintro e w' ⟨rfl,hw⟩;obtain rfl:=hw.symm;rw[HO.out];go_wp2_with fail
  refine HA'.out.mono ?_;rintro e w' ⟨rfl,hw⟩;obtain rfl:=hw.symm;go_wp2_with fail
  refine HB'.out.mono ?_;rintro e w' ⟨rfl,hw⟩;obtain rfl:=hw.symm;go_wp2_with fail
  go_ret2
  exact⟨kV (by rw[HR2.out]) (by rw[HR2.out]),rfl⟩
 ·have HR2:Hid (yD (n+1) ts=(a1+b1,a2)):=by have h1:=HR.out;rw[tg kz]at h1;exact h1
  clear HR
  go_enter Tryz.func131,Tryz.ntmps131
  go_wp2_with fail
  refine(yN ts xW g o cap _ HS.out (by omega) hc).mono ?_;rintro e w' ⟨rfl,hw⟩;obtain rfl:=hw.symm;rw[HO1.out];go_wp2_with fail
  refine(yN ts yE g o cap _ HS.out (by omega) hc).mono ?_;rintro e w' ⟨rfl,hw⟩;obtain rfl:=hw.symm;rw[HO.out];go_wp2_with fail
  refine HA'.out.mono ?_;rintro e w' ⟨rfl,hw⟩;obtain rfl:=hw.symm;go_wp2_with fail
  refine HB'.out.mono ?_;rintro e w' ⟨rfl,hw⟩;obtain rfl:=hw.symm;go_wp2_with fail
  go_ret2
  exact⟨kV (by rw[HR2.out]) (by rw[HR2.out]),rfl⟩
theorem Bi(ih:KL n)(ts:zG)(g o cap:Nat)(w:World)(hs:kL w g o ts)(zIJ:ts.length<=10000)(hc:ts.length<=cap)(hm:cap<=maxLen)(hg:qN (n+1) ts=true)(hor:¬ 0<=yF ts xW)(zJ9:¬ 0<=yF ts yE) :
 Calls Tryz.prog 131 #[.slice (some ⟨g,o,none⟩) ts.length cap] w fun e w'=>e=.returned (.tuple #[.int .i64 (yD (n+1) ts).1,.int .i64 (yD (n+1) ts).2])/\w'=w:=by
 have hbo:=xR ts xW;have hba:=xR ts yE;have HO1:Hid (yF ts xW = -1):=by unfold Hid;omega
 have HO2:Hid (yF ts yE = -1):=by unfold Hid;omega
 have hpos:=nL hg;by_cases zJ4:zS (ts.getD 0 (0,[])).2=yY
 ·rw[qN,tg hor,tg zJ9,tl zJ4,tz]at hg
  have hd:=nL hg.2;rw[ty]at hd;have HA:=ih (ts.drop 1) g (o+1*3) (cap-1) w (hs.drop 1) (by rw[ty];omega) (by rw[ty];omega) (by omega) hg.2;have la:=tM n (ts.drop 1)
  have HR:Hid (yD (n+1) ts=((yD n (ts.drop 1)).1,(yD n (ts.drop 1)).2+1)):=by
   unfold Hid;rw[yD,tg hor,tg zJ9,tl zJ4]
  rw[ty]at HA la;generalize yD n (ts.drop 1)=a at *;obtain⟨a1,a2⟩:=a;simp only at HA HR la;have HA':=sJ HA;have hc2:=(hs 0 hpos).2.2;rw[zJ4]at hc2;simp only[my,pq,yY]at hc2;have hk2:1<ts.length:=by omega
  have HS:Hid (kL w g o ts):=hs;clear HA hg hs hbo hba ih hd hor zJ9 zJ4
  go_enter Tryz.func131,Tryz.ntmps131
  go_wp2_with fail
  refine(yN ts xW g o cap _ HS.out (by omega) hc).mono ?_;rintro e w' ⟨rfl,hw⟩;obtain rfl:=hw.symm;rw[HO1.out];go_wp2_with fail
  refine(yN ts yE g o cap _ HS.out (by omega) hc).mono ?_;rintro e w' ⟨rfl,hw⟩;obtain rfl:=hw.symm;rw[HO2.out];go_wp2_with fail
  refine HA'.out.mono ?_;rintro e w' ⟨rfl,hw⟩;obtain rfl:=hw.symm;go_wp2_with fail
  go_ret2
  exact⟨kV (by rw[HR.out]) (by rw[HR.out]),rfl⟩
 by_cases zJ3:zS (ts.getD 0 (0,[])).2=yQ
 ·rw[qN,tg hor,tg zJ9,tg zJ4,tl zJ3,tz]at hg
  have h0:2<ts.length:=by simpa using hg.1
  have hl2:((ts.drop 1).take (ts.length-2)).length=ts.length-2:=by rw[p9,ty];omega
  have HA:=ih ((ts.drop 1).take (ts.length-2)) g (o+1*3) (cap-1) w ((hs.drop 1).take _) (by rw[hl2];omega) (by rw[hl2];omega) (by omega) hg.2;have la:=tM n ((ts.drop 1).take (ts.length-2))
  have HR:Hid (yD (n+1) ts=((yD n ((ts.drop 1).take (ts.length-2))).1,(yD n ((ts.drop 1).take (ts.length-2))).2+1)):=by
   unfold Hid;rw[yD,tg hor,tg zJ9,tg zJ4,tl zJ3]
  rw[hl2]at HA la;generalize yD n ((ts.drop 1).take (ts.length-2))=a at *;obtain⟨a1,a2⟩:=a;simp only at HA HR la;have HA':=sJ HA;have hc2:=(hs 0 hpos).2.2;rw[zJ3]at hc2;simp only[my,pq,yQ]at hc2;have HS:Hid (kL w g o ts):=hs;clear HA hg hs hbo hba ih hor zJ9 zJ4 zJ3 hl2
  go_enter Tryz.func131,Tryz.ntmps131
  go_wp2_with fail
  refine(yN ts xW g o cap _ HS.out (by omega) hc).mono ?_;rintro e w' ⟨rfl,hw⟩;obtain rfl:=hw.symm;rw[HO1.out];go_wp2_with fail
  refine(yN ts yE g o cap _ HS.out (by omega) hc).mono ?_;rintro e w' ⟨rfl,hw⟩;obtain rfl:=hw.symm;rw[HO2.out];go_wp2_with fail
  refine HA'.out.mono ?_;rintro e w' ⟨rfl,hw⟩;obtain rfl:=hw.symm;go_wp2_with fail
  go_ret2
  exact⟨kV (by rw[HR.out]) (by rw[HR.out]),rfl⟩
 ·have HR:Hid (yD (n+1) ts=(1,0)):=by
   unfold Hid;rw[yD,tg hor,tg zJ9,tg zJ4,tg zJ3]
  have hc2:=(hs 0 hpos).2.2;generalize zS (ts.getD 0 (0,[])).2=cl at *;simp only[my,pq]at hc2;have b1:(cl==[110,111,116])=false:=by simpa[yY] using zJ4
  have b2:(cl==[40])=false:=by simpa[yQ] using zJ3
  have HS:Hid (kL w g o ts):=hs;clear hg hs hbo hba hor zJ9 zJ4 zJ3 ih
  go_enter Tryz.func131,Tryz.ntmps131
  go_wp2_with fail
  refine(yN ts xW g o cap _ HS.out (by omega) hc).mono ?_;rintro e w' ⟨rfl,hw⟩;obtain rfl:=hw.symm;rw[HO1.out];go_wp2_with fail
  refine(yN ts yE g o cap _ HS.out (by omega) hc).mono ?_;rintro e w' ⟨rfl,hw⟩;obtain rfl:=hw.symm;rw[HO2.out];go_wp2_with fail
  go_ret2
  exact⟨kV (by rw[HR.out]) (by rw[HR.out]),rfl⟩
theorem Bj:KL n:=by
 induction n with
 | zero=>intro ts g o cap w _ _ _ _ hg;simp[qN]at hg
 | succ n ih =>
   intro ts g o cap w hs zIJ hc hm hg;by_cases ho:0<=yF ts xW
   ·exact Fw n ih ts g o cap w hs zIJ hc hm hg ho
   ·by_cases ha:0<=yF ts yE
    ·exact Bk n ih ts g o cap w hs zIJ hc hm hg ho ha
    ·exact Bi n ih ts g o cap w hs zIJ hc hm hg ho ha
theorem pE{s:Bs}(h:zS s=yB):s.length<=4:=by
 rcases po 4 s.length with h1|h1
 ·exfalso
  have hk:=(oO s).2 h;unfold vU at hk;split at hk
  ·split at hk
   ·omega
   ·split at hk <;> omega
  ·split at hk
   ·rw[tl (.inl h1)]at hk;omega
   ·split at hk <;> omega
 ·exact h1
theorem zq(c:Bs)(us:List zG)(i k:Nat)(hi:i<us.length)(hk:k<=i):cD c ((us.take (i+1)).drop k)=(if cA (uA us k) 0=c then 1 else 0)+cD c ((us.take (i+1)).drop (k+1)):=by
 have hl:k<(us.take (i+1)).length:=by rw[p9];omega
 rw[pb hl,cD]
 have e:(us.take (i+1))[k]=uA us k:=by
  rw[List.getElem_take];unfold uA;rw[List.getD,pe (by omega)];rfl
 rw[e]
theorem zE0(c:Bs)(us:List zG):cD c us<=us.length:=by
 induction us with
 | nil=>exact t9 _
 | cons u r ih=>rw[cD,p7];split <;> omega
def oX(u:zG)(k:Nat):Bs:=if k=0 then [] else tA u (k-1)
theorem BS:oX u (k+1)=tA u k:=by unfold oX;rw[tg (by omega)];rfl
theorem rK(w k:Nat)(hk:k<w)(hw:w<=u.length):(u.take w).drop k=u.getD k (0,[])::(u.take w).drop (k+1):=by
 have hl:k<(u.take w).length:=by rw[p9];omega
 rw[zJ (u.take w) k hl];congr 1
 rw[List.getD,List.getD,List.getElem?_take_of_lt hk]
theorem zAL:kK u<=u.length:=by
 induction u with
 | nil=>exact t9 _
 | cons t r ih=>rw[kK,p7];split <;> omega
theorem zAV(w k:Nat)(hk:k<w)(hw:w<=u.length):mL (oX u k) ((u.take w).drop k)=((decide (cA u k=[42])&&decide (9<xD 0 (oX u k))) || mL (oX u (k+1)) ((u.take w).drop (k+1))):=by
 rw[rK u w k hk hw,mL,BS];rfl
theorem zCF(w k:Nat)(hk:k<w)(hw:w<=u.length):kK ((u.take w).drop k)=(if cA u k=[43]\/cA u k=[45] then 1 else 0)+kK ((u.take w).drop (k+1)):=by
 rw[rK u w k hk hw,kK];rfl
theorem zj{us:List zG}{i:Nat}(h:¬oH (cA (uA us i) 0)<(cD (cA (uA us i) 0) (us.take (i+1)):Int))(hk:¬cA (uA us i) 0=zR):mB us i=false:=by
 unfold mB;rw[th h,th hk];rfl
theorem U0{us:List zG}{i:Nat}(h:¬oH (cA (uA us i) 0)<(cD (cA (uA us i) 0) (us.take (i+1)):Int))(hk:cA (uA us i) 0=zR):mB us i=Jw (uA us i):=by
 unfold mB;rw[th h,tm hk];rfl
theorem zi(hi:i<us.length)(h:bG w a us)(hA:yP ls us) :
 Calls Tryz.prog 75 #[.slice a us.length c,.int .i64 i] w fun e w'=>e=.returned (.bool (mB us i))/\Below w.heap.size w w':=by
 have HR:=zA h;have zII:=h.few;have HP:Hid (∀k,k<us.length->0<(uA us k).length):=fun k hk=>by have:=(hA.get k hk).two;omega
 have HLT:=zA (hA.get i hi);have hcl:=zE0 (cA (uA us i) 0) (us.take (i+1));rw[p9]at hcl;have hlim:0<=oH (cA (uA us i) 0)/\oH (cA (uA us i) 0)<=28:=by unfold oH;repeat' split <;> omega
 clear h hA
 go_enter Tryz.func75,Tryz.ntmps75
 go_wp2_with fail
 go_loopw [5,6] (fun nv kv wr=>∃(n k:Nat),k<=i+1/\n<=k/\nv=.int .i64 n/\kv=.int .i64 k/\Hid (Below w.heap.size w wr)/\Hid (n+cD (cA (uA us i) 0) ((us.take (i+1)).drop k)=cD (cA (uA us i) 0) (us.take (i+1)))) (fun _ kv _=>i+1-(intOf kv).toNat)
 case atStart=>exact⟨0,0,by omega,t9 _,rfl,rfl,zA (tj _ _),zA (by simp)⟩
 case round =>
  obtain⟨n,k,hk,hn,rfl,rfl,HB,HE⟩:=hrel;by_cases hki:k<=i
  ·have hRr:=HR.out.below HB.out
   obtain⟨gl,g,o,cu,rfl,zIR,zIA,hlc,hcm,hsm⟩:=hRr.at (show k<us.length by omega);obtain⟨gl',g',o',cu',hgg,hcell',hseg',hlc',hcm',hsm'⟩:=hRr.at hi;obtain rfl:gl=gl':=by simpa using hgg
   have hp:=HP.out k (by omega);have hp':=HP.out i hi;have hc0:=(zIA.tok hp).2;have hc0':=(hseg'.tok hp').2;rw[my,pq]at hc0 hc0';have hE:=HE.out;rw[zq _ us i k hi hki]at hE;have HE2:=zA hE;have ik:(k:Int)<(us.length:Int):=by omega
   have ii:(i:Int)<(us.length:Int):=by omega
   have il:(0:Int)<((uA us k).length:Int):=by omega
   have il':(0:Int)<((uA us i).length:Int):=by omega
   clear HE hE zIA hseg' hgg hRr hcl hlim;by_cases k1:cA (uA us k) 0=cA (uA us i) 0
   ·have HE3:Hid (n+1+cD (cA (uA us i) 0) ((us.take (i+1)).drop (k+1))=cD (cA (uA us i) 0) (us.take (i+1))):=by have:=HE2.out;rw[tl k1]at this;unfold Hid;omega
    have b1:(cA (uA us k) 0==cA (uA us i) 0)=true:=by simpa using k1
    clear HE2 k1;go_wp2_with fail
    go_quiet (fail)
    go_wp2_with fail
    go_roundw
    case rel=>exact⟨n+1,k+1,by omega,by omega,by go_num,by go_num,zA (yA HB.out _),HE3⟩
    case measure=>simp[intOf];omega
   ·have HE3:Hid (n+cD (cA (uA us i) 0) ((us.take (i+1)).drop (k+1))=cD (cA (uA us i) 0) (us.take (i+1))):=by have:=HE2.out;rw[tg k1]at this;unfold Hid;omega
    have b1:(cA (uA us k) 0==cA (uA us i) 0)=false:=by simpa using k1
    clear HE2 k1;go_wp2_with fail
    go_quiet (fail)
    go_wp2_with fail
    go_roundw
    case rel=>exact⟨n,k+1,by omega,by omega,rfl,by go_num,zA (yA HB.out _),HE3⟩
    case measure=>simp[intOf];omega
  ·have HN:Hid (n=cD (cA (uA us i) 0) (us.take (i+1))):=by
    have:=HE.out;rw[tu (by rw[p9];omega)]at this;exact this
   have hRr:=HR.out.below HB.out;obtain⟨gl,g,o,cu,rfl,zIR,zIA,hlc,hcm,hsm⟩:=hRr.at hi;have hp:=HP.out i hi;have hc0:=(zIA.tok hp).2;rw[my,pq]at hc0;have il:(0:Int)<((uA us i).length:Int):=by omega
   have HSg:=zA zIA;have HLim:=zA (fun w'=>jd (cA (uA us i) 0) w');have HC0:=zA (fun h1=>zj (us:=us) (i:=i) h1);have HC1:=zA (fun h1=>U0 (us:=us) (i:=i) h1);have HCt:Hid (oH (cA (uA us i) 0)<(cD (cA (uA us i) 0) (us.take (i+1)):Int)->mB us i=true):=fun h1=>by unfold mB;rw[tm h1];rfl
   obtain⟨n',hn'⟩:∃n',n'=cD (cA (uA us i) 0) (us.take (i+1)):=⟨_,rfl⟩;rw[<-hn']at HC0 HC1 HCt hcl HN;obtain rfl:n=n':=HN.out;have HRl:=zA (fun hk=>HLT.out.rule hk);have HTo:=zA HLT.out.toks;clear HE hn' HN hRr zIA HP HLT;generalize hu:uA us i=u at *;have HU:=zA hu;clear hu;generalize hlm:oH (cA u 0)=lm at *;by_cases hm:lm<(n:Int)
   ·have HF:=zA (HCt.out hm)
    clear HC0 HC1 HCt hlm;generalize cA u 0=cl at *;go_wp2_with fail
    refine(HLim.out _).mono ?_;rintro e w1 ⟨rfl,hw⟩;obtain rfl:=hw.symm;go_wp2_with fail
    go_ret
    exact⟨zE HF.out.symm,HB.out⟩
   ·by_cases hkr:cA u 0=zR
    ·have HF:=zA (HC1.out hm hkr)
     obtain⟨w0,hw0⟩:=HRl.out hkr;have HW0:=zA hw0;clear HC0 HC1 HCt hlm HRl;have hwlo:=hw0.wlo;have hwhi:=hw0.whi;have HWn:=zA hw0.wB;have HWt:=zA (Bj (u.length+1) (u.drop (w0+1)) g (o+(w0+1)*3) (cu-(w0+1)) wr (HSg.out.drop (w0+1)) (by rw[ty];omega) (by rw[ty];omega) (by omega) (hw0.good _ (by omega)));rw[ty]at HWt;have HMU:Hid (Jw u=(mL [] (u.take w0) || (decide (4<(kK (u.take w0):Int)+1) || (decide (6<(yD (u.length+1) (u.drop (w0+1))).1) || decide (4<(yD (u.length+1) (u.drop (w0+1))).2))))):=by unfold Hid Jw;rw[hw0.wAt]
     have hpm:=zAL (u.take w0);rw[p9]at hpm;rw[hkr]at hc0 HLim;simp only[zR]at hc0;have HLim2:Hid (∀w':World,Calls Tryz.prog 129 #[.string ⟨#[114,117,108,101]⟩] w' fun e w''=>e=.returned (.int .i64 lm)/\w''=w'):=HLim;clear hw0 hkr HLim;generalize yD (u.length+1) (u.drop (w0+1))=wt at *;obtain⟨wt1,wt2⟩:=wt;simp only at HWt HMU;go_wp2_with fail
     refine(HLim2.out _).mono ?_;rintro e w1 ⟨rfl,hw⟩;obtain rfl:=hw.symm;go_wp2_with fail
     refine(wC u g o cu _ HSg.out (by omega) hlc).mono ?_;rintro e w1 ⟨rfl,hw⟩;obtain rfl:=hw.symm;rw[HWn.out];go_wp2_with fail
     go_loop [8,9] (fun pv kv=>∃(p k:Nat),k<=w0/\p<=k/\pv=.int .i64 ((p:Int)+1)/\kv=.int .i64 k/\Hid (mL (oX u k) ((u.take w0).drop k)=mL [] (u.take w0))/\Hid (p+kK ((u.take w0).drop k)=kK (u.take w0))) (fun _ kv=>w0-(intOf kv).toNat)
     case atStart=>exact⟨0,0,tr _,t9 _,rfl,rfl,zA rfl,zA (by simp)⟩
     case round =>
      obtain⟨p,k,hk,hpk,rfl,rfl,HBg,HPm⟩:=hrel;by_cases hkw:k<w0
      ·have hE:=HBg.out
       have hP:=HPm.out;rw[zAV u w0 k hkw (by omega)]at hE;rw[zCF u w0 k hkw (by omega)]at hP;have hck:=(HSg.out.tok (show k<u.length by omega)).2;have zIO:=HW0.out.stars k hkw;have HT1:=zA (fun hk1:0<k=>(HSg.out.tok (show k-1<u.length by omega)).1);have ikl:(k:Int)<(u.length:Int):=by omega
       have HE2:=zA hE;have HP2:=zA hP;have zJ0:=zA zIO;clear HBg HPm hE hP zIO;obtain⟨cl,hcl2⟩:∃cl,cA u k=cl:=⟨_,rfl⟩;rw[hcl2]at HE2 HP2 zJ0 hck;clear hcl2;by_cases k1:cl=[43]
       ·subst k1
        have HE3:Hid (mL (oX u (k+1)) ((u.take w0).drop (k+1))=mL [] (u.take w0)):=HE2.out;have HP3:Hid (p+1+kK ((u.take w0).drop (k+1))=kK (u.take w0)):=by have:=HP2.out;rw[tl (.inl rfl)]at this;unfold Hid;omega
        clear HE2 HP2;go_wp2_with fail
        go_round
        case rel=>exact⟨p+1,k+1,by omega,by omega,by go_num,by go_num,HE3,HP3⟩
        case measure=>simp[intOf];omega
       by_cases k2:cl=[45]
       ·subst k2
        have HE3:Hid (mL (oX u (k+1)) ((u.take w0).drop (k+1))=mL [] (u.take w0)):=HE2.out;have HP3:Hid (p+1+kK ((u.take w0).drop (k+1))=kK (u.take w0)):=by have:=HP2.out;rw[tl (.inr rfl)]at this;unfold Hid;omega
        clear HE2 HP2 k1;go_wp2_with fail
        go_round
        case rel=>exact⟨p+1,k+1,by omega,by omega,by go_num,by go_num,HE3,HP3⟩
        case measure=>simp[intOf];omega
       have HP3:Hid (p+kK ((u.take w0).drop (k+1))=kK (u.take w0)):=by have:=HP2.out;rw[tg (by rintro(e|e);exact k1 e;exact k2 e)]at this;unfold Hid;omega
       clear HP2;by_cases k3:cl=[42]
       ·subst k3
        obtain⟨hk1,zIY⟩:=zJ0.out rfl;have ht1:=HT1.out hk1;have hlen4:=pE zIY;have e1:oX u k=tA u (k-1):=by unfold oX;rw[tg (by omega)]
        rw[e1]at HE2;have HNm:=zA (bR (tA u (k-1)) wr hlen4);obtain⟨k',rfl⟩:∃k',k=k'+1:=⟨k-1,by omega⟩;rw[show k'+1-1=k' by omega]at ht1 HE2 HNm;clear k1 k2 zJ0 HT1 zIY hlen4 e1;generalize tA u k'=tt at *;by_cases k9:9<xD 0 tt
        ·have HT:Hid (mB us i=true):=by
          unfold Hid;rw[HF.out,HMU.out,<-HE2.out,tm k9];rfl
         clear HE2;generalize xD 0 tt=vv at *;go_wp2_with fail
         refine HNm.out.mono ?_;rintro e w1 ⟨rfl,hw⟩;obtain rfl:=hw.symm;go_wp2_with fail
         go_ret
         exact⟨zE HT.out.symm,HB.out⟩
        ·have HE3:Hid (mL (oX u (k'+1+1)) ((u.take w0).drop (k'+1+1))=mL [] (u.take w0)):=by have:=HE2.out;rw[th k9,lp,pm]at this;exact this
         clear HE2;generalize xD 0 tt=vv at *;go_wp2_with fail
         refine HNm.out.mono ?_;rintro e w1 ⟨rfl,hw⟩;obtain rfl:=hw.symm;go_wp2_with fail
         go_round
         case rel=>exact⟨p,k'+1+1,by omega,by omega,rfl,by go_num,HE3,HP3⟩
         case measure=>simp[intOf];omega
       ·have HE3:Hid (mL (oX u (k+1)) ((u.take w0).drop (k+1))=mL [] (u.take w0)):=by have:=HE2.out;rw[th k3,l5,pm]at this;exact this
        have b1:(cl==[43])=false:=by simpa using k1
        have b2:(cl==[45])=false:=by simpa using k2
        have b3:(cl==[42])=false:=by simpa using k3
        clear HE2 k1 k2 k3 zJ0 HT1;go_wp2_with fail
        go_round
        case rel=>exact⟨p,k+1,by omega,by omega,rfl,by go_num,HE3,HP3⟩
        case measure=>simp[intOf];omega
      ·obtain rfl:k=w0:=by omega
       have HF2:Hid (mB us i=(decide (4<(p:Int)+1) || (decide (6<wt1) || decide (4<wt2)))):=by
        have h1:=HBg.out;have h2:=HPm.out;rw[tu (by rw[p9];omega)]at h1 h2;have h3:mL [] (u.take k)=false:=h1.symm;have h4:kK (u.take k)=p:=h2.symm;unfold Hid;rw[HF.out,HMU.out,h3,h4];rfl
       clear HBg HPm HF HMU;by_cases j1:4<(p:Int)+1
       ·have HF3:Hid (mB us i=true):=by unfold Hid;rw[HF2.out,tm j1];rfl
        clear HF2;go_wp2_with fail
        refine HWt.out.mono ?_;rintro e w1 ⟨rfl,hw⟩;obtain rfl:=hw.symm;go_wp2_with fail
        go_ret
        exact⟨zE HF3.out.symm,HB.out⟩
       by_cases j2:6<wt1
       ·have HF3:Hid (mB us i=true):=by unfold Hid;rw[HF2.out,tm j2,dq,dy]
        clear HF2;go_wp2_with fail
        refine HWt.out.mono ?_;rintro e w1 ⟨rfl,hw⟩;obtain rfl:=hw.symm;go_wp2_with fail
        go_ret
        exact⟨zE HF3.out.symm,HB.out⟩
       have HF3:Hid (mB us i=decide (4<wt2)):=by unfold Hid;rw[HF2.out,th j1,th j2];rfl
       clear HF2;go_wp2_with fail
       refine HWt.out.mono ?_;rintro e w1 ⟨rfl,hw⟩;obtain rfl:=hw.symm;go_wp2_with fail
       go_ret
       exact⟨zE (by rw[HF3.out,th (show ¬ 4<(p:Int)+1 by omega),th (show ¬ 6<wt1 by omega)];rfl),HB.out⟩
    ·have HF:=zA (HC0.out hm hkr)
     clear HC0 HC1 HCt hlm HRl;generalize cA u 0=cl at *;have b1:(cl==[114,117,108,101])=false:=by simpa[zR] using hkr
     clear hkr;go_wp2_with fail
     refine(HLim.out _).mono ?_;rintro e w1 ⟨rfl,hw⟩;obtain rfl:=hw.symm;go_wp2_with fail
     go_ret
     exact⟨zE HF.out.symm,HB.out⟩
theorem zAZ(h:¬k<u.length):gP us u (u.length-k) k=false:=by
 rw[show u.length-k=0 by omega];rfl
theorem yg(h:k<u.length):gP us u (u.length-k) k=if cA u k=yU/\bB us u k=false then true else gP us u (u.length-(k+1)) (k+1):=by
 rw[show u.length-k=(u.length-(k+1))+1 by omega,gP]
theorem U8{f1 f2:Int}{i:Nat}{hd:Bool}(h1:¬f1<(i:Int))(h2:¬f2<(i:Int)):(decide (f1<(i:Int)) || decide (f2<(i:Int)) || hd)=hd:=by rw[th h1,th h2];rfl
theorem zER{f1:Int}{i:Nat}{hd:Bool}(h1:¬f1<(i:Int)):(decide (f1<(i:Int)) || hd)=hd:=by rw[th h1];rfl
theorem iO(p:zG->Bool)(us:List zG):∀i:Nat,0<=vT p us i->p (uA us ((vT p us i).toNat-i))=true:=by
 induction us with
 | nil=>intro i h;simp[vT]at h
 | cons u r ih =>
   intro i h;rw[vT]at h ⊢;split
   ·rename_i hp;simpa[uA] using hp
   ·rename_i hp
    rw[tg hp]at h;have h1:=(pQ p r (i+1)).2.2 h;have:=ih (i+1) h;rw[show (vT p r (i+1)).toNat-i=((vT p r (i+1)).toNat-(i+1))+1 by omega];exact this
theorem J1{ls:List zF}{us:List zG}(hA:yP ls us){nm:Bs}(h:0<=zW us zR 1 nm):∃f:Nat,zW us zR 1 nm=f/\f<us.length/\6<=(uA us f).length:=by
 have hb:=pQ (aG zR 1 nm) us 0;have hh:=iO (aG zR 1 nm) us 0 h;obtain⟨f,hf⟩:=bq h;unfold zW at hf h ⊢;rw[hf]at hh hb ⊢;have hfl:f<us.length:=by omega
 refine⟨f,rfl,hfl,?_⟩;unfold aG at hh;rw[tz]at hh;exact(hA.get f hfl).len (by simpa using hh.1)
theorem zCU(hi:i<us.length)(h:bG w a us)(hA:yP ls us) :
 Calls Tryz.prog 132 #[.slice a us.length c,.int .i64 i] w fun e w'=>e=.returned (.bool (xG us i))/\w'=w:=by
 have hx:=hA.get i hi;have zII:=h.few;obtain⟨gl,g,o,cu,e0,zIR,zIA,hlc,hcm,hsm⟩:=h.at hi;have h2:=hx.two;have hc1:=(zIA.tok (show 1<(uA us i).length by omega)).1;have hc0:=(zIA.tok (show 0<(uA us i).length by omega)).2;rw[my,pq]at hc0;rw[du]at hc1;have H1:=zA (fun kd nm=>nO w a c ls us kd nm h hA);have HH:=zA (VZ w a c ls us (tA (uA us i) 1) h hA);have il:(1:Int)<((uA us i).length:Int):=by omega
 have il0:(0:Int)<((uA us i).length:Int):=by omega
 have fb:=fun kd nm=>pQ (aG kd 1 nm) us 0;subst e0;rcases hx.kind with ⟨-,b,-⟩|⟨-,b⟩|⟨-,b,h3,-⟩|⟨-,b,w0,hw⟩
 all_goals have HB:=zA b
 ·have HR:Hid (xG us i=((decide (0<=zW us xK 1 (tA (uA us i) 1))&&decide (zW us xK 1 (tA (uA us i) 1)<(i:Int))) || ((decide (0<=zW us xV 1 (tA (uA us i) 1))&&decide (zW us xV 1 (tA (uA us i) 1)<(i:Int))) || tG us (tA (uA us i) 1)))):=by unfold Hid xG;rw[tl (.inl b)]
  have F1:Hid (Calls Tryz.prog 110 #[.slice (some ⟨gl,0,none⟩) us.length c,.string ⟨#[110,117,109]⟩,.int .i64 1,.string ⟨(tA (uA us i) 1).toArray⟩] w fun e w'=>e=.returned (.int .i64 (zW us xK 1 (tA (uA us i) 1)))/\w'=w):=H1.out xK _;have F2:Hid (Calls Tryz.prog 110 #[.slice (some ⟨gl,0,none⟩) us.length c,.string ⟨#[102,108,97,103]⟩,.int .i64 1,.string ⟨(tA (uA us i) 1).toArray⟩] w fun e w'=>e=.returned (.int .i64 (zW us xV 1 (tA (uA us i) 1)))/\w'=w):=H1.out xV _;rw[b]at hc0;simp only[xK]at hc0;clear h hA hx zIA H1 b HB fb;generalize zW us xK 1 (tA (uA us i) 1)=f1 at *;generalize zW us xV 1 (tA (uA us i) 1)=f2 at *;generalize tG us (tA (uA us i) 1)=hd at *;generalize tA (uA us i) 1=nm at *
  go_enter Tryz.func132,Tryz.ntmps132
  go_wp2_with fail
  refine F1.out.mono ?_;rintro e w1 ⟨rfl,hw⟩;obtain rfl:=hw.symm;go_wp2_with fail
  refine F2.out.mono ?_;rintro e w1 ⟨rfl,hw⟩;obtain rfl:=hw.symm;by_cases j0:0<=f1
  ·by_cases j1:f1<(i:Int)
   ·have HR2:Hid (xG us i=true):=by unfold Hid;rw[HR.out,tm j0,tm j1];rfl
    clear HR;go_wp2_with fail
    go_ret
    exact⟨zE HR2.out.symm,rfl⟩
   ·have HR1:Hid (xG us i=((decide (0<=f2)&&decide (f2<(i:Int))) || hd)):=by unfold Hid;rw[HR.out,th j1,lp,pm]
    clear HR;by_cases j2:0<=f2
    ·by_cases j3:f2<(i:Int)
     ·have HR2:Hid (xG us i=true):=by unfold Hid;rw[HR1.out,tm j2,tm j3];rfl
      clear HR1;go_wp2_with fail
      go_ret
      exact⟨zE HR2.out.symm,rfl⟩
     ·have HR2:Hid (xG us i=hd):=by unfold Hid;rw[HR1.out,th j3,lp,pm]
      clear HR1;go_wp2_with fail
      refine HH.out.mono ?_;rintro e w1 ⟨rfl,hw⟩;obtain rfl:=hw.symm;go_wp2_with fail
      go_ret
      exact⟨zE (by first|exact HR2.out.symm|(rw[HR2.out];exact U8 (by omega) (by omega))|(rw[HR2.out];exact zER (by omega))),rfl⟩
    ·have HR2:Hid (xG us i=hd):=by unfold Hid;rw[HR1.out,th j2,l5,pm]
     clear HR1;go_wp2_with fail
     refine HH.out.mono ?_;rintro e w1 ⟨rfl,hw⟩;obtain rfl:=hw.symm;go_wp2_with fail
     go_ret
     exact⟨zE (by first|exact HR2.out.symm|(rw[HR2.out];exact U8 (by omega) (by omega))|(rw[HR2.out];exact zER (by omega))),rfl⟩
  ·have HR1:Hid (xG us i=((decide (0<=f2)&&decide (f2<(i:Int))) || hd)):=by unfold Hid;rw[HR.out,th j0,l5,pm]
   clear HR;by_cases j2:0<=f2
   ·by_cases j3:f2<(i:Int)
    ·have HR2:Hid (xG us i=true):=by unfold Hid;rw[HR1.out,tm j2,tm j3];rfl
     clear HR1;go_wp2_with fail
     go_ret
     exact⟨zE HR2.out.symm,rfl⟩
    ·have HR2:Hid (xG us i=hd):=by unfold Hid;rw[HR1.out,th j3,lp,pm]
     clear HR1;go_wp2_with fail
     refine HH.out.mono ?_;rintro e w1 ⟨rfl,hw⟩;obtain rfl:=hw.symm;go_wp2_with fail
     go_ret
     exact⟨zE (by first|exact HR2.out.symm|(rw[HR2.out];exact U8 (by omega) (by omega))|(rw[HR2.out];exact zER (by omega))),rfl⟩
   ·have HR2:Hid (xG us i=hd):=by unfold Hid;rw[HR1.out,th j2,l5,pm]
    clear HR1;go_wp2_with fail
    refine HH.out.mono ?_;rintro e w1 ⟨rfl,hw⟩;obtain rfl:=hw.symm;go_wp2_with fail
    go_ret
    exact⟨zE (by first|exact HR2.out.symm|(rw[HR2.out];exact U8 (by omega) (by omega))|(rw[HR2.out];exact zER (by omega))),rfl⟩
 ·have HR:Hid (xG us i=((decide (0<=zW us xK 1 (tA (uA us i) 1))&&decide (zW us xK 1 (tA (uA us i) 1)<(i:Int))) || ((decide (0<=zW us xV 1 (tA (uA us i) 1))&&decide (zW us xV 1 (tA (uA us i) 1)<(i:Int))) || tG us (tA (uA us i) 1)))):=by unfold Hid xG;rw[tl (.inr b)]
  have F1:Hid (Calls Tryz.prog 110 #[.slice (some ⟨gl,0,none⟩) us.length c,.string ⟨#[110,117,109]⟩,.int .i64 1,.string ⟨(tA (uA us i) 1).toArray⟩] w fun e w'=>e=.returned (.int .i64 (zW us xK 1 (tA (uA us i) 1)))/\w'=w):=H1.out xK _;have F2:Hid (Calls Tryz.prog 110 #[.slice (some ⟨gl,0,none⟩) us.length c,.string ⟨#[102,108,97,103]⟩,.int .i64 1,.string ⟨(tA (uA us i) 1).toArray⟩] w fun e w'=>e=.returned (.int .i64 (zW us xV 1 (tA (uA us i) 1)))/\w'=w):=H1.out xV _;rw[b]at hc0;simp only[xV]at hc0;clear h hA hx zIA H1 b HB fb;generalize zW us xK 1 (tA (uA us i) 1)=f1 at *;generalize zW us xV 1 (tA (uA us i) 1)=f2 at *;generalize tG us (tA (uA us i) 1)=hd at *;generalize tA (uA us i) 1=nm at *
  go_enter Tryz.func132,Tryz.ntmps132
  go_wp2_with fail
  refine F1.out.mono ?_;rintro e w1 ⟨rfl,hw⟩;obtain rfl:=hw.symm;go_wp2_with fail
  refine F2.out.mono ?_;rintro e w1 ⟨rfl,hw⟩;obtain rfl:=hw.symm;by_cases j0:0<=f1
  ·by_cases j1:f1<(i:Int)
   ·have HR2:Hid (xG us i=true):=by unfold Hid;rw[HR.out,tm j0,tm j1];rfl
    clear HR;go_wp2_with fail
    go_ret
    exact⟨zE HR2.out.symm,rfl⟩
   ·have HR1:Hid (xG us i=((decide (0<=f2)&&decide (f2<(i:Int))) || hd)):=by unfold Hid;rw[HR.out,th j1,lp,pm]
    clear HR;by_cases j2:0<=f2
    ·by_cases j3:f2<(i:Int)
     ·have HR2:Hid (xG us i=true):=by unfold Hid;rw[HR1.out,tm j2,tm j3];rfl
      clear HR1;go_wp2_with fail
      go_ret
      exact⟨zE HR2.out.symm,rfl⟩
     ·have HR2:Hid (xG us i=hd):=by unfold Hid;rw[HR1.out,th j3,lp,pm]
      clear HR1;go_wp2_with fail
      refine HH.out.mono ?_;rintro e w1 ⟨rfl,hw⟩;obtain rfl:=hw.symm;go_wp2_with fail
      go_ret
      exact⟨zE (by first|exact HR2.out.symm|(rw[HR2.out];exact U8 (by omega) (by omega))|(rw[HR2.out];exact zER (by omega))),rfl⟩
    ·have HR2:Hid (xG us i=hd):=by unfold Hid;rw[HR1.out,th j2,l5,pm]
     clear HR1;go_wp2_with fail
     refine HH.out.mono ?_;rintro e w1 ⟨rfl,hw⟩;obtain rfl:=hw.symm;go_wp2_with fail
     go_ret
     exact⟨zE (by first|exact HR2.out.symm|(rw[HR2.out];exact U8 (by omega) (by omega))|(rw[HR2.out];exact zER (by omega))),rfl⟩
  ·have HR1:Hid (xG us i=((decide (0<=f2)&&decide (f2<(i:Int))) || hd)):=by unfold Hid;rw[HR.out,th j0,l5,pm]
   clear HR;by_cases j2:0<=f2
   ·by_cases j3:f2<(i:Int)
    ·have HR2:Hid (xG us i=true):=by unfold Hid;rw[HR1.out,tm j2,tm j3];rfl
     clear HR1;go_wp2_with fail
     go_ret
     exact⟨zE HR2.out.symm,rfl⟩
    ·have HR2:Hid (xG us i=hd):=by unfold Hid;rw[HR1.out,th j3,lp,pm]
     clear HR1;go_wp2_with fail
     refine HH.out.mono ?_;rintro e w1 ⟨rfl,hw⟩;obtain rfl:=hw.symm;go_wp2_with fail
     go_ret
     exact⟨zE (by first|exact HR2.out.symm|(rw[HR2.out];exact U8 (by omega) (by omega))|(rw[HR2.out];exact zER (by omega))),rfl⟩
   ·have HR2:Hid (xG us i=hd):=by unfold Hid;rw[HR1.out,th j2,l5,pm]
    clear HR1;go_wp2_with fail
    refine HH.out.mono ?_;rintro e w1 ⟨rfl,hw⟩;obtain rfl:=hw.symm;go_wp2_with fail
    go_ret
    exact⟨zE (by first|exact HR2.out.symm|(rw[HR2.out];exact U8 (by omega) (by omega))|(rw[HR2.out];exact zER (by omega))),rfl⟩
 ·have HR:Hid (xG us i=(decide (zW us zR 1 (tA (uA us i) 1)<0) || decide (zW us zR 1 (tA (uA us i) 2)<0))):=by
   unfold Hid xG;rw[tg (show ¬(cA (uA us i) 0=xK\/cA (uA us i) 0=xV) by rw[b];decide),tl b]
  have hc2:=(zIA.tok (show 2<(uA us i).length by omega)).1;rw[show 2*3=6 from rfl]at hc2;have F1:Hid (Calls Tryz.prog 110 #[.slice (some ⟨gl,0,none⟩) us.length c,.string ⟨#[114,117,108,101]⟩,.int .i64 1,.string ⟨(tA (uA us i) 1).toArray⟩] w fun e w'=>e=.returned (.int .i64 (zW us zR 1 (tA (uA us i) 1)))/\w'=w):=H1.out zR _;have F2:Hid (Calls Tryz.prog 110 #[.slice (some ⟨gl,0,none⟩) us.length c,.string ⟨#[114,117,108,101]⟩,.int .i64 1,.string ⟨(tA (uA us i) 2).toArray⟩] w fun e w'=>e=.returned (.int .i64 (zW us zR 1 (tA (uA us i) 2)))/\w'=w):=H1.out zR _;rw[b]at hc0;simp only[tZ]at hc0;have il2:(2:Int)<((uA us i).length:Int):=by omega
  clear h hA hx zIA H1 b HB fb HH;generalize zW us zR 1 (tA (uA us i) 1)=f1 at *;generalize zW us zR 1 (tA (uA us i) 2)=f2 at *;generalize tA (uA us i) 1=nm at *;generalize tA (uA us i) 2=nm2 at *
  go_enter Tryz.func132,Tryz.ntmps132
  go_wp2_with fail
  refine F1.out.mono ?_;rintro e w1 ⟨rfl,hw⟩;obtain rfl:=hw.symm;by_cases j0:f1<0
  ·have HR2:Hid (xG us i=true):=by unfold Hid;rw[HR.out,tm j0];rfl
   clear HR;go_wp2_with fail
   go_ret
   exact⟨zE HR2.out.symm,rfl⟩
  ·have HR2:Hid (xG us i=decide (f2<0)):=by unfold Hid;rw[HR.out,th j0];rfl
   clear HR;have j1:decide (f1<0)=false:=th j0;go_wp2_with fail
   refine F2.out.mono ?_;rintro e w1 ⟨rfl,hw⟩;obtain rfl:=hw.symm;go_wp2_with fail
   go_ret
   exact⟨zE HR2.out.symm,rfl⟩
 ·have HR:Hid (xG us i=(decide (zW us zR 1 (tA (uA us i) 1)<(i:Int)) || gP us (uA us i) ((uA us i).length-5) 5)):=by
   unfold Hid xG;rw[tg (show ¬(cA (uA us i) 0=xK\/cA (uA us i) 0=xV) by rw[b];decide),tg (show ¬cA (uA us i) 0=tZ by rw[b];decide)]
  have F1:Hid (Calls Tryz.prog 110 #[.slice (some ⟨gl,0,none⟩) us.length c,.string ⟨#[114,117,108,101]⟩,.int .i64 1,.string ⟨(tA (uA us i) 1).toArray⟩] w fun e w'=>e=.returned (.int .i64 (zW us zR 1 (tA (uA us i) 1)))/\w'=w):=H1.out zR _;have HFt:=zA (fun k (h1:1<=k) (h2:k<(uA us i).length)=>zGL w (some ⟨gl,0,none⟩) c ls us (uA us i) g o cu k w0 h hA zIA hsm hlc h1 h2 hw.wB);have HSg:=zA zIA;have hwlo:=hw.wlo;have hwhi:=hw.whi;rw[b]at hc0;simp only[zR]at hc0;clear h hA hx zIA H1 b HB fb HH hw;generalize zW us zR 1 (tA (uA us i) 1)=f1 at *;generalize tA (uA us i) 1=nm at *;generalize uA us i=u at *
  go_enter Tryz.func132,Tryz.ntmps132
  go_wp2_with fail
  refine F1.out.mono ?_;rintro e w1 ⟨rfl,hw⟩;obtain rfl:=hw.symm;by_cases j0:f1<(i:Int)
  ·have HR2:Hid (xG us i=true):=by unfold Hid;rw[HR.out,tm j0];rfl
   clear HR;go_wp2_with fail
   go_ret
   exact⟨zE HR2.out.symm,rfl⟩
  ·have HR2:Hid (xG us i=gP us u (u.length-5) 5):=by unfold Hid;rw[HR.out,th j0];rfl
   clear HR;go_wp2_with fail
   go_loop [9] (fun kv=>∃(k:Nat),5<=k/\k<=u.length/\kv=.int .i64 k/\Hid (gP us u (u.length-k) k=gP us u (u.length-5) 5)) (fun kv=>u.length-(intOf kv).toNat)
   case atStart=>exact⟨5,t9 _,by omega,rfl,zA rfl⟩
   case round =>
    obtain⟨k,hk5,hk,rfl,HE⟩:=hrel;by_cases zI6:k<u.length
    ·have hck:=(HSg.out.tok zI6).2
     have hE:=HE.out;rw[yg us u k zI6]at hE;have HE2:=zA hE;have HFk:=zA (HFt.out k (by omega) zI6);have ikl:(k:Int)<(u.length:Int):=by omega
     clear HE hE;generalize bB us u k=z at *;generalize cA u k=cl at *;by_cases kn:cl=yU
     ·have bn:(cl==[78,65,77,69])=true:=by simpa[yU] using kn
      cases z
      ·have HR3:Hid (xG us i=true):=by unfold Hid;rw[HR2.out,<-HE2.out,tl ⟨kn,rfl⟩]
       clear HE2 kn;go_wp2_with fail
       refine HFk.out.mono ?_;rintro e w1 ⟨rfl,hw⟩;obtain rfl:=hw.symm;go_wp2_with fail
       go_ret
       exact⟨zE HR3.out.symm,rfl⟩
      ·have HE3:Hid (gP us u (u.length-(k+1)) (k+1)=gP us u (u.length-5) 5):=by have:=HE2.out;rw[tg (fun h=>absurd h.2 (by decide))]at this;exact this
       clear HE2 kn;go_wp2_with fail
       refine HFk.out.mono ?_;rintro e w1 ⟨rfl,hw⟩;obtain rfl:=hw.symm;go_wp2_with fail
       go_round
       case rel=>exact⟨k+1,by omega,by omega,by go_num,HE3⟩
       case measure=>simp[intOf];omega
     ·have bn:(cl==[78,65,77,69])=false:=by simpa[yU] using kn
      have HE3:Hid (gP us u (u.length-(k+1)) (k+1)=gP us u (u.length-5) 5):=by have:=HE2.out;rw[tg (fun h=>kn h.1)]at this;exact this
      clear HE2 kn;go_wp2_with fail
      go_round
      case rel=>exact⟨k+1,by omega,by omega,by go_num,HE3⟩
      case measure=>simp[intOf];omega
    ·have HR3:Hid (xG us i=false):=by unfold Hid;rw[HR2.out,<-HE.out,zAZ us u k zI6]
     clear HE;go_wp2_with fail
     go_ret
     exact⟨zE HR3.out.symm,rfl⟩
theorem zDY(hi:i<us.length)(h:bG w a us)(hA:yP ls us) :
 Calls Tryz.prog 76 #[.slice a us.length c,.int .i64 i] w fun e w'=>e=.returned (.int .i64 (jV us i))/\Below w.heap.size w w':=by
 have HNm:=zA (zCU w a c ls us i hi h hA);have hx:=hA.get i hi;have zII:=h.few;obtain⟨gl,g,o,cu,e0,zIR,zIA,hlc,hcm,hsm⟩:=h.at hi;have h2:=hx.two;have hc1:=(zIA.tok (show 1<(uA us i).length by omega)).1;have hc0:=(zIA.tok (show 0<(uA us i).length by omega)).2;rw[my,pq]at hc0;rw[du]at hc1;have il:(1:Int)<((uA us i).length:Int):=by omega
 have il0:(0:Int)<((uA us i).length:Int):=by omega
 have HR:Hid (jV us i=if xG us i=true then 4 else if cA (uA us i) 0=xK then (if xD 0 (tA (uA us i) 4)<xD 0 (tA (uA us i) 2) then 5 else 0) else if cA (uA us i) 0=tZ then (if Jp us (uA us i)=true then 6 else 0) else 0):=rfl;subst e0;cases hn:xG us i
 rotate_left
 ·rw[hn]at HNm
  have HR2:Hid (jV us i=4):=by unfold Hid;rw[HR.out,hn,tl rfl]
  clear h hA hx zIA HR hn
  go_enter Tryz.func76,Tryz.ntmps76
  go_wp2_with fail
  refine HNm.out.mono ?_;rintro e w1 ⟨rfl,hw⟩;obtain rfl:=hw.symm;go_wp2_with fail
  go_ret
  exact⟨zY HR2.out.symm,tj _ _⟩
 have HR1:Hid (jV us i=if cA (uA us i) 0=xK then (if xD 0 (tA (uA us i) 4)<xD 0 (tA (uA us i) 2) then 5 else 0) else if cA (uA us i) 0=tZ then (if Jp us (uA us i)=true then 6 else 0) else 0):=by unfold Hid;rw[HR.out,hn,tg dc]
 rcases hx.kind with ⟨-,b,h5,n2,n4,-⟩|⟨-,b⟩|⟨-,b,h3,-⟩|⟨-,b,w0,hw⟩
 ·rw[hn]at HNm
  have hc2:=(zIA.tok (show 2<(uA us i).length by omega)).1;have hc4:=(zIA.tok (show 4<(uA us i).length by omega)).1;rw[show 2*3=6 from rfl]at hc2;rw[show 4*3=12 from rfl]at hc4;have HN2:=zA (fun w'=>bR (tA (uA us i) 2) w' (pE n2));have HN4:=zA (fun w'=>bR (tA (uA us i) 4) w' (pE n4));have HR2:Hid (jV us i=if xD 0 (tA (uA us i) 4)<xD 0 (tA (uA us i) 2) then 5 else 0):=by unfold Hid;rw[HR1.out,tl b]
  rw[b]at hc0;simp only[xK]at hc0;have il2:(2:Int)<((uA us i).length:Int):=by omega
  have il4:(4:Int)<((uA us i).length:Int):=by omega
  clear h hA hx zIA HR HR1 hn b n2 n4;generalize xD 0 (tA (uA us i) 4)=v4 at *;generalize xD 0 (tA (uA us i) 2)=v2 at *;generalize tA (uA us i) 2=t2 at *;generalize tA (uA us i) 4=t4 at *
  go_enter Tryz.func76,Tryz.ntmps76
  go_wp2_with fail
  refine HNm.out.mono ?_;rintro e w1 ⟨rfl,hw⟩;obtain rfl:=hw.symm;go_wp2_with fail
  go_quiet (first
   | (go_at_call_of 130 (Value.string ⟨t2.toArray⟩);refine Calls.quiet_of_same (HN2.out _))
   | (go_at_call_of 130 (Value.string ⟨t4.toArray⟩);refine Calls.quiet_of_same (HN4.out _)))
  by_cases hv:v4<v2
  ·have HR3:Hid (jV us i=5):=by unfold Hid;rw[HR2.out,tl hv]
   clear HR2;go_wp2_with fail
   go_ret
   exact⟨zY HR3.out.symm,yA (tj _ _) _⟩
  ·have HR3:Hid (jV us i=0):=by unfold Hid;rw[HR2.out,tg hv]
   clear HR2;go_wp2_with fail
   go_ret
   exact⟨zY HR3.out.symm,yA (tj _ _) _⟩
 ·rw[hn]at HNm
  have HR2:Hid (jV us i=0):=by unfold Hid;rw[HR1.out,tg (by rw[b];decide),tg (by rw[b];decide)]
  rw[b]at hc0;simp only[xV]at hc0;clear h hA hx zIA HR HR1 hn b
  go_enter Tryz.func76,Tryz.ntmps76
  go_wp2_with fail
  refine HNm.out.mono ?_;rintro e w1 ⟨rfl,hw⟩;obtain rfl:=hw.symm;go_wp2_with fail
  go_ret
  exact⟨zY HR2.out.symm,tj _ _⟩
 ·have hnm:(decide (zW us zR 1 (tA (uA us i) 1)<0) || decide (zW us zR 1 (tA (uA us i) 2)<0))=false:=by
   rw[<-hn];unfold xG;rw[tg (show ¬(cA (uA us i) 0=xK\/cA (uA us i) 0=xV) by rw[b];decide),tl b]
  rw[ld,bk,bk]at hnm;obtain⟨f1,e1,hf1,hl1⟩:=J1 hA (show 0<=zW us zR 1 (tA (uA us i) 1) by omega);obtain⟨f2,e2,hf2,hl2⟩:=J1 hA (show 0<=zW us zR 1 (tA (uA us i) 2) by omega);rw[hn]at HNm
  have HR2:Hid (jV us i=if (decide (tA (uA us i) 1=tA (uA us i) 2) || !decide (tA (uA us f1) 3=tA (uA us f2) 3))=true then 6 else 0):=by
   unfold Hid;rw[HR1.out,tg (show ¬cA (uA us i) 0=xK by rw[b];decide),tl b];unfold Jp;rw[e1,e2];rfl
  have F1:Hid (Calls Tryz.prog 110 #[.slice (some ⟨gl,0,none⟩) us.length c,.string ⟨#[114,117,108,101]⟩,.int .i64 1,.string ⟨(tA (uA us i) 1).toArray⟩] w fun e w'=>e=.returned (.int .i64 f1)/\w'=w):=by
   have:=nO w (some ⟨gl,0,none⟩) c ls us zR (tA (uA us i) 1) h hA;rw[e1]at this;exact this
  have F2:Hid (Calls Tryz.prog 110 #[.slice (some ⟨gl,0,none⟩) us.length c,.string ⟨#[114,117,108,101]⟩,.int .i64 1,.string ⟨(tA (uA us i) 2).toArray⟩] w fun e w'=>e=.returned (.int .i64 f2)/\w'=w):=by
   have:=nO w (some ⟨gl,0,none⟩) c ls us zR (tA (uA us i) 2) h hA;rw[e2]at this;exact this
  have hc2:=(zIA.tok (show 2<(uA us i).length by omega)).1;rw[show 2*3=6 from rfl]at hc2;obtain⟨gl1,g1,o1,cu1,eg1,hcell1,hseg1,hlc1,_,_⟩:=h.at hf1;obtain⟨gl2,g2,o2,cu2,eg2,hcell2,hseg2,hlc2,_,_⟩:=h.at hf2;obtain rfl:gl=gl1:=by simpa using eg1
  obtain rfl:gl=gl2:=by simpa using eg2
  have hd1:=(hseg1.tok (show 3<(uA us f1).length by omega)).1;have hd2:=(hseg2.tok (show 3<(uA us f2).length by omega)).1;rw[show 3*3=9 from rfl]at hd1 hd2;rw[b]at hc0;simp only[tZ]at hc0;have il2:(2:Int)<((uA us i).length:Int):=by omega
  have jf1:(f1:Int)<(us.length:Int):=by omega
  have jf2:(f2:Int)<(us.length:Int):=by omega
  have jl1:(3:Int)<((uA us f1).length:Int):=by omega
  have jl2:(3:Int)<((uA us f2).length:Int):=by omega
  clear h hA hx zIA hseg1 hseg2 HR HR1 hn b hnm e1 e2 eg1 eg2;generalize tA (uA us i) 1=t1 at *;generalize tA (uA us i) 2=t2 at *;generalize tA (uA us f1) 3=s1 at *;generalize tA (uA us f2) 3=s2 at *
  go_enter Tryz.func76,Tryz.ntmps76
  go_wp2_with fail
  refine HNm.out.mono ?_;rintro e w1 ⟨rfl,hw⟩;obtain rfl:=hw.symm;go_wp2_with fail
  refine F1.out.mono ?_;rintro e w1 ⟨rfl,hw⟩;obtain rfl:=hw.symm;go_wp2_with fail
  refine F2.out.mono ?_;rintro e w1 ⟨rfl,hw⟩;obtain rfl:=hw.symm;go_wp2_with fail
  by_cases kt:t1=t2
  ·have HR3:Hid (jV us i=6):=by unfold Hid;rw[HR2.out,tm kt];rfl
   have bt:(t1==t2)=true:=by simpa using kt
   clear HR2 kt
   go_quiet (fail)
   go_wp2_with fail
   go_ret
   exact⟨zY HR3.out.symm,yA (tj _ _) _⟩
  have bt:(t1==t2)=false:=by simpa using kt
  by_cases ks:s1=s2
  ·have HR3:Hid (jV us i=0):=by unfold Hid;rw[HR2.out,th kt,tm ks];rfl
   have bs:(s1==s2)=true:=by simpa using ks
   clear HR2 kt ks
   go_quiet (fail)
   go_wp2_with fail
   go_ret
   exact⟨zY HR3.out.symm,yA (tj _ _) _⟩
  ·have HR3:Hid (jV us i=6):=by unfold Hid;rw[HR2.out,th kt,th ks];rfl
   have bs:(s1==s2)=false:=by simpa using ks
   clear HR2 kt ks
   go_quiet (fail)
   go_wp2_with fail
   go_ret
   exact⟨zY HR3.out.symm,yA (tj _ _) _⟩
 ·rw[hn]at HNm
  have HR2:Hid (jV us i=0):=by unfold Hid;rw[HR1.out,tg (by rw[b];decide),tg (by rw[b];decide)]
  rw[b]at hc0;simp only[zR]at hc0;clear h hA hx zIA HR HR1 hn b hw
  go_enter Tryz.func76,Tryz.ntmps76
  go_wp2_with fail
  refine HNm.out.mono ?_;rintro e w1 ⟨rfl,hw⟩;obtain rfl:=hw.symm;go_wp2_with fail
  go_ret
  exact⟨zY HR2.out.symm,tj _ _⟩
end Go.Proofs.YtnbpdffdnphbeaaGreatDoor
