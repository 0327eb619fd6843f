import Derived.Test.YtnbpdffdnphbeaaGreatDoorRfHeads
import Derived.Test.YtnbpdffdnphbeaaGreatDoorRfNamed
set_option maxHeartbeats 4000000
namespace Go.Proofs.YtnbpdffdnphbeaaGreatDoor
open Go.RowKit
variable{ls:List zF}{us:List zG}(n:Nat)
def jV(l:Bs):Int × Int:=if 4000<l.length then (1,0) else match (yZ l).2.2 with|true=>(2,((yV (wD l) (yZ l).2.1).p:Int))|false=>qL (yZ l).1
theorem zGE{w:World}{B:Nat}{lv:Value}{ls:List LX}(h:KS w B lv ls)(hg:∀x∈ls,dG x.1)(hf:ls.length<=10000):∃a c,lv=.slice a ls.length c/\ls.length<=c/\pD w a ls:=by
 have hrows:∀x∈ls,Y2 w x:=fun x hx=>by
  refine⟨Q0.of_rows (h.2 x hx),hg x hx,?_⟩;rcases(h.2 x hx).2.2 with ⟨_,h2⟩|⟨_,cap,_,_,_,_,h4,h5,_,_⟩
  ·rw[h2];exact tr _
  ·exact tx h4 h5
 rcases h.1.2 with ⟨h1,h2⟩|⟨gl,cap,yV,h1,_,h3,h4,_,_,h7⟩
 ·exact⟨none,0,by rw[h1,h2],by omega,⟨fun h0=>by omega,hrows,hf⟩⟩
 ·exact⟨_,cap,h1,h4,⟨fun _=>⟨gl,yV,rfl,h3,h7⟩,hrows,hf⟩⟩
def gK(us:List zG):Nat->Nat->Option Nat
 | 0,_=>none
 | n+1,i=>if mA us i=true then some i else gK us n (i+1)
def bZ(us:List zG):Nat->Nat->Option Nat
 | 0,_=>none
 | n+1,i=>if jU us i=0 then bZ us n (i+1) else some i
def ut(us:List zG):Int × Int:=if dZ us false=true then (7,0) else if dZ us true=true then (7,1) else (0,0)
def Zu(us:List zG):Int × Int:=match bZ us us.length 0 with|some i=>(jU us i,(i:Int))|none=>ut us
def GZ(us:List zG):Int × Int:=match gK us us.length 0 with|some i=>(3,(i:Int))|none=>Zu us
theorem Uw(hA:yQ ls us)(n:Nat):∀i,i+n=us.length->gK us n i=fU ls n i:=by
 induction n with
 | zero=>intro i _;rfl
 | succ n ih=>intro i h;rw[gK,fU,CO hA (by omega),ih (i+1) (by omega)]
theorem Yw(hA:yQ ls us)(n:Nat):∀i,i+n=us.length->bZ us n i=sL ls n i:=by
 induction n with
 | zero=>intro i _;rfl
 | succ n ih=>intro i h;rw[bZ,sL,Qe hA (by omega),ih (i+1) (by omega)]
theorem CN(us:List zG)(n:Nat):∀i j,bZ us n i=some j->i<=j/\j<i+n:=by
 induction n with
 | zero=>intro i j h;simp[bZ]at h
 | succ n ih=>intro i j h;rw[bZ]at h;split at h
              ·have:=ih _ _ h;omega
              ·obtain rfl:=co h;omega
theorem XG:∀i,fU ls n i=none->∀j,i<=j->j<i+n->mJ ls j=false:=by
 induction n with
 | zero=>intro i _ j h1 h2;omega
 | succ n ih =>
   intro i h j h1 h2;rw[fU]at h;split at h
   ·cases h
   ·rename_i hm
    by_cases hj:j=i
    ·subst hj;simpa using hm
    ·exact ih (i+1) h j (by omega) (by omega)
theorem J0:∀i,sL ls n i=none->∀j,i<=j->j<i+n->pP ls j=0:=by
 induction n with
 | zero=>intro i _ j h1 h2;omega
 | succ n ih =>
   intro i h j h1 h2;rw[sL]at h;split at h
   ·rename_i hm
    by_cases hj:j=i
    ·subst hj;exact hm
    ·exact ih (i+1) h j (by omega) (by omega)
   ·cases h
theorem U2(k:Int)(xs ys:List zF):uW k (xs++ys)=uW k xs+uW k ys:=by
 induction xs with
 | nil=>simp[uW]
 | cons x r ih=>rw[bw,uW,ih,uW];omega
theorem Jy(h:∀i,i<ls.length->mJ ls i=false):uW 3 ls<=8:=by
 have key:∀n,n<=ls.length->uW 3 (ls.take n)<=8:=by
  intro n
  induction n with
  | zero=>intro _;simp[uW]
  | succ n ih =>
    intro hn;rw[pG ls n (by omega),U2];have ih:=ih (by omega);by_cases hk:(lA ls n).kind=3
    ·have hm:=h n (by omega)
     unfold mJ at hm;rw[lj,bk,hk]at hm;have hl:Zj 3=8:=by decide
     rw[hl]at hm;simp only[uW,hk,if_true];omega
    ·simp only[uW,tg hk];omega
 have:=key ls.length (t9 _)
 rwa [lp]at this
theorem GY(hA:yQ ls us):GZ us=qL ls:=by
 have hl:=hA.len;unfold GZ qL;rw[Uw hA us.length 0 (by omega),<-hl]
 cases hm:fU ls ls.length 0 with
 | some i=>rfl
 | none =>
   simp only;unfold Zu Jz;rw[Yw hA us.length 0 (by omega),<-hl]
   cases he:sL ls ls.length 0 with
   | some i =>
     simp only
     have hi:i<us.length:=by
      have h1:=Yw hA us.length 0 (by omega);rw[<-hl,he]at h1;have:=CN us ls.length 0 i (by rw[h1]);omega
     rw[Qe hA hi]
   | none =>
     simp only;have h1:=fun i (hi:i<ls.length)=>XG ls.length 0 hm i (tr _) (by omega);have h2:=fun i (hi:i<ls.length)=>J0 ls.length 0 he i (tr _) (by omega);have h8:=Jy h1
     have hn:(xH ls).Nodup:=by
      refine XL ls (fun i hi hk=>?_);have:=h2 i hi;unfold pP at this;rw[tg (by rw[hk];decide),tg (by rw[hk];decide),tj hk]at this;unfold bL at this;split at this
      ·cases this
      ·rename_i hh
       cases hx:vP (ls.take i) 3 (lA ls i).name with
       | false=>rfl
       | true=>rw[hx]at hh;exact absurd rfl hh
     unfold ut Kd;rw[BF hA h8,FO hA h8 hn]
def jZ(l:Bs):List zG:=(qR (yR l 0)).map (nV (yR l 0))
def ZU(l:Bs):Int × Int:=if 4000<l.length then (1,0) else if 0<=tQ l then (2,tQ l) else GZ (jZ l)
theorem zAV{n:Nat}{l:Bs}(h:l.length<=4000->JH n l/\JI l):ZU l=jV l:=by
 unfold ZU jV;by_cases hl:4000<l.length
 ·rw[tj hl,tj hl]
 ·rw[tg hl,tg hl]
  obtain⟨hT,hC⟩:=h (by omega);cases hf:(yZ l).2.2
  ·rw[tg (by have:=hT.reads hf;omega)]
   exact GY (hC.lines hf)
  ·rw[tj (hT.fails hf),hC.place hf]
theorem Ds{w w':World}{v:Value}{ts:zG}(h:Fj w w' v ts)(zJ1:ts.length<=4000):∃a c,v=.slice a ((qR ts).map (nV ts)).length c/\bF w' a ((qR ts).map (nV ts)):=by
 obtain⟨g,cap,zIF,hc,hm,zID⟩:=h;have hln:=XJ ts 0 0;rw[show uB ts 0 0=qR ts from rfl]at hln
 have hsm:∀u∈(qR ts).map (nV ts),u.length<=10000:=fun u hu=>by
  obtain⟨p,hp,rfl⟩:=mn.1 hu;have:=Jq ts p hp;rw[Xp this];omega
 rcases BS zID with ⟨h1,h2⟩|⟨gl,cl,h1,h2,h3⟩
 ·refine⟨none,0,by rw[h1,h2];rfl,⟨fun h0=>by rw[h2]at h0;simp at h0,by rw[ms];omega,hsm⟩⟩
 ·refine⟨some ⟨gl,0,none⟩,cl,by rw[h1,ms],⟨fun _=>⟨gl,rfl,fun i hi=>?_⟩,by rw[ms];omega,hsm⟩⟩
  rw[ms]at hi;have zIW:=h3 i hi;have hp:(qR ts).getD i (0,0)∈qR ts:=by simp[List.getD,hi]
  have zIR:=Jq ts _ hp
  have eu:uA ((qR ts).map (nV ts)) i=nV ts ((qR ts).getD i (0,0)):=by
   unfold uA;simp[List.getD,hi]
  rw[eu];generalize (qR ts).getD i (0,0)=p at *;refine⟨g,p.1*3,cap-p.1,?_,?_,?_,by omega⟩
  ·rw[zIW,Xp zIR];rfl
  ·have:=(zIF.drop p.1).take p.2;rw[l8]at this;exact this
  ·rw[Xp zIR];omega
theorem KL(l:Bs)(w:World)(zJ3:l.length<=maxLen)(hf:jF w)(hA:l.length<=4000->tQ l<0->∃ls,yQ ls (jZ l)) :
 Calls Tryz.prog 39 #[.string ⟨l.toArray⟩] w fun e w'=>e=.returned (.tuple #[.int .i64 (ZU l).1,.int .i64 (ZU l).2])/\Below w.heap.size w w':=by
 unfold maxLen at zJ3;by_cases hl:4000<l.length
 ·have HR:Hid (ZU l=(1,0)):=by unfold Hid ZU;rw[tj hl]
  generalize ZU l=ans at *;clear hA hf
  go_enter Tryz.func39,Tryz.ntmps39
  go_wp2_with fail
  go_ret2
  exact⟨kU (by rw[HR.out]) (by rw[HR.out]),tl _ _⟩
 ·have hl4:l.length<=4000:=by omega
  have HF:=zA (zBJ l w hl4 hf);by_cases hfm:0<=tQ l
  ·have HR:Hid (ZU l=(2,tQ l)):=by unfold Hid ZU;rw[tg hl,tj hfm]
   generalize ZU l=ans at *;generalize tQ l=fm at *;clear hA hf
   go_enter Tryz.func39,Tryz.ntmps39
   go_wp2_with fail
   refine HF.out.mono ?_;rintro e w1 ⟨rfl,zIX⟩;have HB:=zA zIX;clear zIX;go_wp2_with fail
   go_ret2
   exact⟨kU (by rw[HR.out]) (by rw[HR.out]),HB.out⟩
  ·obtain⟨ls,hAA⟩:=hA hl4 (by omega)
   have HA:=zA hAA;have HR:Hid (ZU l=GZ (jZ l)):=by unfold Hid ZU;rw[tg hl,tg hfm]
   have HL:Hid (∀w:World,Calls Tryz.prog 63 #[.string ⟨l.toArray⟩] w fun e w'=>∃a c,e=.returned (.slice a (jZ l).length c)/\bF w' a (jZ l)/\Below w.heap.size w w'):=fun w=>by
    refine(JL l w hl4).mono ?_;rintro e w' ⟨v,rfl,h1,h2⟩;obtain⟨a,c,rfl,h3⟩:=Ds h1 (tx (kW l 0) hl4);exact⟨a,c,rfl,h3,h2⟩
   generalize ZU l=ans at *;generalize jZ l=us at *;generalize tQ l=fm at *;clear hA hf hAA;have hfm2:fm<0:=by omega
   clear hfm
   go_enter Tryz.func39,Tryz.ntmps39
   go_wp2_with fail
   refine HF.out.mono ?_;rintro e w1 ⟨rfl,zIX⟩;have HB1:=zA zIX;clear zIX HF;go_wp2_with fail
   refine(HL.out w1).mono ?_;rintro e w2 ⟨a,c,rfl,zIY,hbel2⟩;have HB2:Hid (Below w.heap.size w w2):=HB1.out.trans (hbel2.mono HB1.out.size);have HRow:=zA zIY;have zIP:=zIY.few;clear hbel2 zIY HL HB1;go_wp2_with fail
   go_loopw [6] (fun iv wr=>∃(i:Nat),i<=us.length/\iv=.int .i64 i/\Hid (Below w2.heap.size w2 wr)/\Hid (gK us (us.length-i) i=gK us us.length 0)) (fun iv _=>us.length-(intOf iv).toNat)
   case atStart=>exact⟨0,tr _,rfl,zA (tl _ _),zA rfl⟩
   case round =>
    obtain⟨i,hi,rfl,HB,HE⟩:=hrel;by_cases zIB:i<us.length
    ·have HC:=zA (zd wr a c ls us i zIB (HRow.out.below HB.out) HA.out)
     have hE:=HE.out;rw[show us.length-i=(us.length-(i+1))+1 by omega,gK]at hE;have HE2:=zA hE;clear HE hE;generalize mA us i=z at *;cases z
     ·have HE3:Hid (gK us (us.length-(i+1)) (i+1)=gK us us.length 0):=by have:=HE2.out;rw[tg dc]at this;exact this
      clear HE2;go_wp2_with fail
      refine HC.out.mono ?_;rintro e w3 ⟨rfl,hb3⟩;have HB3:Hid (Below w2.heap.size w2 w3):=HB.out.trans (hb3.mono HB.out.size);clear hb3;go_wp2_with fail
      go_roundw
      case rel=>exact⟨i+1,by omega,by go_num,HB3,HE3⟩
      case measure=>simp[intOf];omega
     ·have HF2:Hid (ans=(3,(i:Int))):=by
       have:some i=gK us us.length 0:=by have:=HE2.out;rw[tj rfl]at this;exact this
       unfold Hid;rw[HR.out,GZ,<-this]
      clear HE2 HR;go_wp2_with fail
      refine HC.out.mono ?_;rintro e w3 ⟨rfl,hb3⟩;have HB3:Hid (Below w.heap.size w w3):=(HB2.out.trans (HB.out.mono HB2.out.size)).trans (hb3.mono (tx HB2.out.size HB.out.size));clear hb3;go_wp2_with fail
      go_ret2
      exact⟨kU (by rw[HF2.out]) (by rw[HF2.out]),HB3.out⟩
    ·have HR2:Hid (ans=Zu us):=by
      have:=HE.out;rw[show us.length-i=0 by omega]at this;unfold Hid;rw[HR.out,GZ,<-this];rfl
     clear HE HR;obtain⟨wq,hwq⟩:∃wq,wq=wr:=⟨_,rfl⟩;subst hwq;go_wp2_with fail
     go_loopw [8] (fun iv wr=>∃(i:Nat),i<=us.length/\iv=.int .i64 i/\Hid (Below w2.heap.size w2 wr)/\Hid (bZ us (us.length-i) i=bZ us us.length 0)) (fun iv _=>us.length-(intOf iv).toNat)
     case atStart=>exact⟨0,tr _,rfl,HB,zA rfl⟩
     case round =>
      obtain⟨j,hj,rfl,HBj,HEj⟩:=hrel;have zJ6:Hid (Below w.heap.size w wr):=HB2.out.trans (HBj.out.mono HB2.out.size);by_cases hltj:j<us.length
      ·have HC:=zA (zE4 wr a c ls us j hltj (HRow.out.below HBj.out) HA.out)
       have hE:=HEj.out;rw[show us.length-j=(us.length-(j+1))+1 by omega,bZ]at hE;have HE2:=zA hE;clear HEj hE;by_cases hz:jU us j=0
       ·have HE3:Hid (bZ us (us.length-(j+1)) (j+1)=bZ us us.length 0):=by have:=HE2.out;rw[tj hz]at this;exact this
        rw[hz]at HC;clear HE2 hz;go_wp2_with fail
        refine HC.out.mono ?_;rintro e w3 ⟨rfl,hb3⟩;have HB3:Hid (Below w2.heap.size w2 w3):=HBj.out.trans (hb3.mono HBj.out.size);clear hb3;go_wp2_with fail
        go_roundw
        case rel=>exact⟨j+1,by omega,by go_num,HB3,HE3⟩
        case measure=>simp[intOf];omega
       ·have HF2:Hid (ans=(jU us j,(j:Int))):=by
         have:some j=bZ us us.length 0:=by have:=HE2.out;rw[tg hz]at this;exact this
         unfold Hid;rw[HR2.out,Zu,<-this]
        clear HE2;generalize jU us j=fz at *;have be:(fz != 0)=true:=by simpa using hz
        clear hz;go_wp2_with fail
        refine HC.out.mono ?_;rintro e w3 ⟨rfl,hb3⟩;have HB3:Hid (Below w.heap.size w w3):=zJ6.out.trans (hb3.mono zJ6.out.size);clear hb3;go_wp2_with fail
        go_ret2
        exact⟨kU (by rw[HF2.out]) (by rw[HF2.out]),HB3.out⟩
      ·have HR3:Hid (ans=if dZ us false=true then (7,0) else if dZ us true=true then (7,1) else (0,0)):=by
        have:=HEj.out;rw[show us.length-j=0 by omega]at this;unfold Hid;rw[HR2.out,Zu,<-this];rfl
       clear HEj HR2;have HG0:=zA (Vq wr a c ls us false (HRow.out.below HBj.out) HA.out);have HG1:=zA (fun w' (hb:Below w2.heap.size w2 w')=>Vq w' a c ls us true (HRow.out.below hb) HA.out);generalize dZ us false=z0 at *;generalize dZ us true=z1 at *;go_wp2_with fail
       refine HG0.out.mono ?_;rintro e w3 ⟨rfl,hb3⟩;have HB3:Hid (Below w2.heap.size w2 w3):=HBj.out.trans (hb3.mono HBj.out.size);clear hb3;cases z0
       ·have HR4:Hid (ans=if z1=true then (7,1) else (0,0)):=by have:=HR3.out;rw[tg dc]at this;exact this
        clear HR3;go_wp2_with fail
        refine(HG1.out _ HB3.out).mono ?_;rintro e w4 ⟨rfl,hb4⟩;have HB4:Hid (Below w.heap.size w w4):=(HB2.out.trans (HB3.out.mono HB2.out.size)).trans (hb4.mono (tx HB2.out.size HB3.out.size));clear hb4;cases z1
        ·have HR5:Hid (ans=(0,0)):=by have:=HR4.out;rw[tg dc]at this;exact this
         clear HR4;go_wp2_with fail
         go_ret2
         exact⟨kU (by rw[HR5.out]) (by rw[HR5.out]),HB4.out⟩
        ·have HR5:Hid (ans=(7,1)):=by have:=HR4.out;rw[tj rfl]at this;exact this
         clear HR4;go_wp2_with fail
         go_ret2
         exact⟨kU (by rw[HR5.out]) (by rw[HR5.out]),HB4.out⟩
       ·have HR4:Hid (ans=(7,0)):=by have:=HR3.out;rw[tj rfl]at this;exact this
        have HB4:Hid (Below w.heap.size w w3):=HB2.out.trans (HB3.out.mono HB2.out.size);clear HR3;go_wp2_with fail
        go_ret2
        exact⟨kU (by rw[HR4.out]) (by rw[HR4.out]),HB4.out⟩
end Go.Proofs.YtnbpdffdnphbeaaGreatDoor
