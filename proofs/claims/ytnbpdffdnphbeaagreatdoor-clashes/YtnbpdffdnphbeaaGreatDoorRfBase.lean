import Derived.Test.YtnbpdffdnphbeaaGreatDoorPGraph
import Derived.BigQuiet
set_option maxHeartbeats 1000000
namespace Go.Proofs.YtnbpdffdnphbeaaGreatDoor
open Go.RowKit
variable{g i o:Nat}(w:World)(a:Option Addr)(c:Nat)(ls:List zF)(us:List zG)(nm:Bs)
structure bG(w:World)(a:Option Addr)(us:List zG):Prop where
 blk:0<us.length->∃gl,a=some ⟨gl,0,none⟩/\∀i,i<us.length->∃g o c,w.cell? ⟨gl,i,none⟩=some (.slice (some ⟨g,o,none⟩) (uA us i).length c)/\kL w g o (uA us i)/\(uA us i).length<=c/\c<=maxLen
 few:us.length<=10000
 small:∀u∈us,u.length<=10000
theorem zP{w:World}{v:Value}(h:w.cell? ⟨g,o,none⟩=some v):g<w.heap.size:=by
 rcases po g w.heap.size with h1|h1
 ·exact h1
 ·rw[World.cell?,pj (by simpa using h1)]at h;cases h
theorem kL.below'{w w':World}{ts:zG}(h:kL w g o ts)(hb:Below w.heap.size w w'):kL w' g o ts:=by
 intro i hi;obtain⟨a,b,c⟩:=h i hi;have hg:=zP a;exact⟨by rw[hb.cell (p:=⟨g,_,none⟩) hg];exact a,by rw[hb.cell (p:=⟨g,_,none⟩) hg];exact b,by rw[hb.cell (p:=⟨g,_,none⟩) hg];exact c⟩
theorem bG.below{w w':World}{a:Option Addr}{us:List zG}(h:bG w a us)(hb:Below w.heap.size w w'):bG w' a us:=by
 refine⟨fun h0=>?_,h.few,h.small⟩;obtain⟨gl,e,p⟩:=h.blk h0;refine⟨gl,e,fun i hi=>?_⟩;obtain⟨g,o,c,h1,h2,h3,h4⟩:=p i hi;exact⟨g,o,c,by rw[hb.cell (p:=⟨gl,i,none⟩) (zP h1)];exact h1,h2.below' hb,h3,h4⟩
theorem Xk{us:List zG}(h:i<us.length):uA us i∈us:=by simp[uA,List.getD,h]
theorem bG.at{w:World}{a:Option Addr}{us:List zG}(h:bG w a us)(hi:i<us.length):∃gl g o c,a=some ⟨gl,0,none⟩/\w.cell? ⟨gl,i,none⟩=some (.slice (some ⟨g,o,none⟩) (uA us i).length c)/\kL w g o (uA us i)/\(uA us i).length<=c/\c<=maxLen/\(uA us i).length<=10000:=by
 obtain⟨gl,e,p⟩:=h.blk (by omega);obtain⟨g,o,c,h1,h2,h3,h4⟩:=p i hi;exact⟨gl,g,o,c,e,h1,h2,h3,h4,h.small _ (Xk hi)⟩
theorem kL.tok{w:World}{ts:zG}(h:kL w g o ts)(hi:i<ts.length):w.cell? ⟨g,o+i*3,none⟩=some (.string ⟨(tA ts i).toArray⟩)/\w.cell? ⟨g,o+i*3+2,none⟩=some (.string ⟨(cA ts i).toArray⟩) :=
 ⟨(h i hi).1,(h i hi).2.2⟩
theorem Us(p:zG->Bool)(us:List zG)(i:Nat)(h:i<us.length):vT p (us.drop i) i=if p (uA us i) then (i:Int) else vT p (us.drop (i+1)) (i+1):=by
 rw[pb h,vT];simp[uA,List.getD,h]
theorem Fb(kd:Bs)(at':Nat)(nm:Bs)(h:bG w a us)(h0:∀u∈us,0<u.length)(h1:∀u∈us,cA u 0=kd->at'<u.length) :
 Calls Tryz.prog 110 #[.slice a us.length c,.string ⟨kd.toArray⟩,.int .i64 at',.string ⟨nm.toArray⟩] w fun e w'=>e=.returned (.int .i64 (zW us kd at' nm))/\w'=w:=by
 have HR:=zA h;have zII:=h.few;have H0:=zA h0;have H1:=zA h1;clear h h0 h1
 go_enter Tryz.func110,Tryz.ntmps110
 go_wp2_with fail
 go_loop [9] (fun iv=>∃(i:Nat),i<=us.length/\iv=.int .i64 i/\Hid (vT (aG kd at' nm) (us.drop i) i=zW us kd at' nm)) (fun iv=>us.length-(intOf iv).toNat)
 case atStart=>exact⟨0,tr _,rfl,zA rfl⟩
 case round =>
  obtain⟨i,hi,rfl,HE⟩:=hrel;by_cases zI6:i<us.length
  ·obtain⟨gl,g,o,cu,rfl,zIR,zIA,hlc,hcm,hsm⟩:=HR.out.at zI6
   have hpos:=H0.out _ (Xk zI6);have hkat:=H1.out _ (Xk zI6);have hE:=HE.out;rw[Us _ us i zI6]at hE;have HE2:=zA hE;have hc0:=(zIA.tok hpos).2;rw[my,pq]at hc0;have HSg:=zA zIA;clear HE hE zIA;generalize uA us i=u at *;by_cases k1:cA u 0=kd
   ·have hk:=hkat k1
    have hc1:=(HSg.out.tok hk).1;have b1:(cA u 0==kd)=true:=by simpa using k1
    by_cases k2:tA u at'=nm
    ·have b2:(tA u at'==nm)=true:=by simpa using k2
     have HE3:Hid (zW us kd at' nm=i):=by have:=HE2.out;unfold aG at this;rw[tm k1,tm k2]at this;exact this.symm
     clear HE2 k1 k2 hkat;generalize cA u 0=cl at *;generalize tA u at'=tt at *;go_wp2_with fail
     go_ret
     exact⟨zY HE3.out.symm,rfl⟩
    ·have b2:(tA u at'==nm)=false:=by simpa using k2
     have HE3:Hid (vT (aG kd at' nm) (us.drop (i+1)) (i+1)=zW us kd at' nm):=by have:=HE2.out;unfold aG at this;rw[tm k1,th k2]at this;exact this
     clear HE2 k1 k2 hkat;generalize cA u 0=cl at *;generalize tA u at'=tt at *;go_wp2_with fail
     go_round
     case rel=>exact⟨i+1,by omega,by go_num,HE3⟩
     case measure=>simp[intOf];omega
   ·have b1:(cA u 0==kd)=false:=by simpa using k1
    have HE3:Hid (vT (aG kd at' nm) (us.drop (i+1)) (i+1)=zW us kd at' nm):=by have:=HE2.out;unfold aG at this;rw[th k1]at this;exact this
    clear HE2 k1 hkat;generalize cA u 0=cl at *;go_wp2_with fail
    go_round
    case rel=>exact⟨i+1,by omega,by go_num,HE3⟩
    case measure=>simp[intOf];omega
  ·have HE3:Hid (zW us kd at' nm = -1):=by have:=HE.out;rw[tu (by omega)]at this;exact this.symm
   clear HE;go_wp2_with fail
   go_ret
   exact⟨zY HE3.out.symm,rfl⟩
theorem yP.mem:∀ {ls:List zF} {us:List zG},yP ls us->∀u∈us,∃x,LT x u
 | [],[],_,u,hu=>absurd hu (by simp)
 | x::xs,v::us,h,u,hu=>by
   rcases pi.1 hu with rfl|hu
   ·exact⟨x,h.1⟩
   ·exact yP.mem h.2 u hu
 | [],_::_,h,_,_=>absurd h id
 | _::_,[],h,_,_=>absurd h id
theorem nO(kd nm:Bs)(h:bG w a us)(hA:yP ls us) :
 Calls Tryz.prog 110 #[.slice a us.length c,.string ⟨kd.toArray⟩,.int .i64 1,.string ⟨nm.toArray⟩] w fun e w'=>e=.returned (.int .i64 (zW us kd 1 nm))/\w'=w :=
 Fb w a c us kd 1 nm h (fun u hu=>by obtain⟨x,hx⟩:=hA.mem u hu;have:=hx.two;omega) (fun u hu _=>by obtain⟨x,hx⟩:=hA.mem u hu;have:=hx.two;omega)
theorem Ut(h:bG w a us)(hA:yP ls us) :
 Calls Tryz.prog 110 #[.slice a us.length c,.string ⟨zR.toArray⟩,.int .i64 3,.string ⟨nm.toArray⟩] w fun e w'=>e=.returned (.int .i64 (zW us zR 3 nm))/\w'=w :=
 Fb w a c us zR 3 nm h (fun u hu=>by obtain⟨x,hx⟩:=hA.mem u hu;have:=hx.two;omega) (fun u hu hk=>by obtain⟨x,hx⟩:=hA.mem u hu;have:=hx.len hk;omega)
theorem DQ(h:bG w a us)(hA:yP ls us) :
 Calls Tryz.prog 236 #[.slice a us.length c,.string ⟨nm.toArray⟩] w fun e w'=>e=.returned (.bool (tF us nm))/\w'=w:=by
 have H:=zA (nO w a c ls us xK nm h hA);have HR:Hid (tF us nm=decide (0<=zW us xK 1 nm)):=rfl;clear h hA;generalize zW us xK 1 nm=f at *;have H':Hid (Calls Tryz.prog 110 #[.slice a us.length c,.string ⟨#[110,117,109]⟩,.int .i64 1,.string ⟨nm.toArray⟩] w fun e w'=>e=.returned (.int .i64 f)/\w'=w):=H;clear H
 go_enter Tryz.func236,Tryz.ntmps236
 go_wp2_with fail
 refine H'.out.mono ?_;rintro e w1 ⟨rfl,hw⟩;obtain rfl:=hw.symm;go_wp2_with fail
 go_ret
 exact⟨zE HR.out.symm,rfl⟩
theorem Ua(h:bG w a us)(hA:yP ls us) :
 Calls Tryz.prog 195 #[.slice a us.length c,.string ⟨nm.toArray⟩] w fun e w'=>e=.returned (.bool (tH us nm))/\w'=w:=by
 have H:=zA (nO w a c ls us xV nm h hA);have HR:Hid (tH us nm=decide (0<=zW us xV 1 nm)):=rfl;clear h hA;generalize zW us xV 1 nm=f at *;have H':Hid (Calls Tryz.prog 110 #[.slice a us.length c,.string ⟨#[102,108,97,103]⟩,.int .i64 1,.string ⟨nm.toArray⟩] w fun e w'=>e=.returned (.int .i64 f)/\w'=w):=H;clear H
 go_enter Tryz.func195,Tryz.ntmps195
 go_wp2_with fail
 refine H'.out.mono ?_;rintro e w1 ⟨rfl,hw⟩;obtain rfl:=hw.symm;go_wp2_with fail
 go_ret
 exact⟨zE HR.out.symm,rfl⟩
theorem VZ(h:bG w a us)(hA:yP ls us) :
 Calls Tryz.prog 191 #[.slice a us.length c,.string ⟨nm.toArray⟩] w fun e w'=>e=.returned (.bool (tG us nm))/\w'=w:=by
 have H:=zA (Ut w a c ls us nm h hA);have HR:Hid (tG us nm=decide (0<=zW us zR 3 nm)):=rfl;clear h hA;generalize zW us zR 3 nm=f at *;have H':Hid (Calls Tryz.prog 110 #[.slice a us.length c,.string ⟨#[114,117,108,101]⟩,.int .i64 3,.string ⟨nm.toArray⟩] w fun e w'=>e=.returned (.int .i64 f)/\w'=w):=H;clear H
 go_enter Tryz.func191,Tryz.ntmps191
 go_wp2_with fail
 refine H'.out.mono ?_;rintro e w1 ⟨rfl,hw⟩;obtain rfl:=hw.symm;go_wp2_with fail
 go_ret
 exact⟨zE HR.out.symm,rfl⟩
theorem jd(cl:Bs)(w:World):Calls Tryz.prog 129 #[.string ⟨cl.toArray⟩] w fun e w'=>e=.returned (.int .i64 (oH cl))/\w'=w:=by
 by_cases h1:cl=xK
 ·subst h1
  have HR:Hid (oH xK=3):=by unfold Hid;decide
  generalize oH xK=z at *;unfold xK
  go_enter Tryz.func129,Tryz.ntmps129
  go_wp2_with fail
  go_ret;exact⟨zY HR.out.symm,rfl⟩
 by_cases h2:cl=xV
 ·subst h2
  have HR:Hid (oH xV=3):=by unfold Hid;decide
  generalize oH xV=z at *;unfold xV
  go_enter Tryz.func129,Tryz.ntmps129
  go_wp2_with fail
  go_ret;exact⟨zY HR.out.symm,rfl⟩
 by_cases h3:cl=zR
 ·subst h3
  have HR:Hid (oH zR=8):=by unfold Hid;decide
  generalize oH zR=z at *;unfold zR
  go_enter Tryz.func129,Tryz.ntmps129
  go_wp2_with fail
  go_ret;exact⟨zY HR.out.symm,rfl⟩
 ·have HR:Hid (oH cl=28):=by unfold Hid oH;rw[tg h1,tg h2,tg h3]
  generalize oH cl=z at *;have b1:(cl==[110,117,109])=false:=by simpa[xK] using h1
  have b2:(cl==[102,108,97,103])=false:=by simpa[xV] using h2
  have b3:(cl==[114,117,108,101])=false:=by simpa[zR] using h3
  clear h1 h2 h3
  go_enter Tryz.func129,Tryz.ntmps129
  go_wp2_with fail
  go_ret;exact⟨zY HR.out.symm,rfl⟩
theorem Fx(a:Int)(s:Bs)(i:Nat)(h:i<s.length):xD a (s.drop i)=xD (10*a+(((s.getD i 0).toNat:Int)-48)) (s.drop (i+1)):=by
 rw[nP s i h,QW]
theorem bR(s:Bs)(w:World)(hs:s.length<=4) :
 Calls Tryz.prog 130 #[.string ⟨s.toArray⟩] w fun e w'=>e=.returned (.int .i64 (xD 0 s))/\w'=w:=by
 go_enter Tryz.func130,Tryz.ntmps130
 go_wp2_with fail
 go_loop [3,4] (fun nv iv=>∃(i:Nat) (n:Int),i<=s.length/\nv=.int .i64 n/\iv=.int .i64 i /\ -((10:Int) ^ (2*i+2))<=n/\n<=(10:Int) ^ (2*i+2)/\Hid (xD n (s.drop i)=xD 0 s)) (fun _ iv=>s.length-(intOf iv).toNat)
 case atStart=>exact⟨0,0,tr _,rfl,rfl,by decide,by decide,zA rfl⟩
 case round =>
  obtain⟨i,n,hi,rfl,rfl,hn1,hn2,HE⟩:=hrel;by_cases zI6:i<s.length
  ·have hE:=HE.out
   rw[Fx n s i zI6]at hE;obtain⟨cc,hcc⟩:∃cc,s.getD i 0=cc:=⟨_,rfl⟩;rw[hcc]at hE;have HE2:=zA hE;have HCC:=zA hcc;clear hcc;have hb:cc.toNat<256:=UInt8.toNat_lt _;have hp:(10:Int) ^ (2*(i+1)+2)=100*(10:Int) ^ (2*i+2):=by rw[show 2*(i+1)+2=2*i+2+1+1 by omega,Int.pow_succ,Int.pow_succ];omega
   have hq:(10:Int) ^ (2*i+2)<=10000000000:=by
    have:i=0\/i=1\/i=2\/i=3:=by omega
    rcases this with rfl|rfl|rfl|rfl <;> decide
   have hq1:(100:Int)<=(10:Int) ^ (2*i+2):=by
    have:i=0\/i=1\/i=2\/i=3:=by omega
    rcases this with rfl|rfl|rfl|rfl <;> decide
   clear HE hE;generalize (10:Int) ^ (2*i+2)=P at *;go_wp2_with fail
   go_round
   case rel=>exact⟨i+1,10*n+((cc.toNat:Int)-48),by omega,by rw[oI,HCC.out,show wrap64 (wrap64 (10*n+wrap64 (cc.toNat:Int))-48)=10*n+((cc.toNat:Int)-48) by unfold wrap64;omega],by go_num,by rw[hp];omega,by rw[hp];omega,HE2⟩
   case measure=>simp[intOf];omega
  ·have HE3:Hid (n=xD 0 s):=by have:=HE.out;rw[tu (by omega)]at this;exact this
   clear HE;go_wp2_with fail
   go_ret
   exact⟨zY HE3.out,rfl⟩
end Go.Proofs.YtnbpdffdnphbeaaGreatDoor
