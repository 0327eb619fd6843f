import Derived.Test.YtnbpdffdnphbeaaGreatDoorRfHeads
import Derived.Test.YtnbpdffdnphbeaaGreatDoorRfNamed
set_option maxHeartbeats 4000000
namespace Go.Proofs.YtnbpdffdnphbeaaGreatDoor
open Go.RowKit
variable{ls:List zF}{us:List zG}(n:Nat)
def aX(l:Bs):Int × Int:=if 4000<l.length then (1,0) else match (xZ l).2.2 with|true=>(2,((yW (Z9 l) (xZ l).2.1).p:Int))|false=>kC (xZ l).1
theorem zG9{w:World}{B:Nat}{lv:Value}{ls:List LX}(h:KW w B lv ls)(hg:∀x∈ls,gE x.1)(hf:ls.length<=10000):∃a c,lv=.slice a ls.length c/\ls.length<=c/\pG w a ls:=by
 have hrows:∀x∈ls,Y7 w x:=fun x hx=>by
  refine⟨Q8.of_rows (h.2 x hx),hg x hx,?_⟩;rcases(h.2 x hx).2.2 with ⟨_,h2⟩|⟨_,cap,_,_,_,_,h4,h5,_,_⟩
  ·rw[h2];exact tr _
  ·exact tx h4 h5
 rcases h.1.2 with ⟨h1,h2⟩|⟨gl,cap,yW,h1,_,h3,h4,_,_,h7⟩
 ·exact⟨none,0,by rw[h1,h2],by omega,⟨fun h0=>by omega,hrows,hf⟩⟩
 ·exact⟨_,cap,h1,h4,⟨fun _=>⟨gl,yW,rfl,h3,h7⟩,hrows,hf⟩⟩
def gO(us:List zG):Nat->Nat->Option Nat
 | 0,_=>none
 | n+1,i=>if mB us i=true then some i else gO us n (i+1)
def cC(us:List zG):Nat->Nat->Option Nat
 | 0,_=>none
 | n+1,i=>if jV us i=0 then cC us n (i+1) else some i
def ut(us:List zG):Int × Int:=if fB us false=true then (7,0) else if fB us true=true then (7,1) else (0,0)
def Zu(us:List zG):Int × Int:=match cC us us.length 0 with|some i=>(jV us i,(i:Int))|none=>ut us
def zf(us:List zG):Int × Int:=match gO us us.length 0 with|some i=>(3,(i:Int))|none=>Zu us
theorem U1(hA:yP ls us)(n:Nat):∀i,i+n=us.length->gO us n i=fX ls n i:=by
 induction n with
 | zero=>intro i _;rfl
 | succ n ih=>intro i h;rw[gO,fX,CZ hA (by omega),ih (i+1) (by omega)]
theorem Y1(hA:yP ls us)(n:Nat):∀i,i+n=us.length->cC us n i=sO ls n i:=by
 induction n with
 | zero=>intro i _;rfl
 | succ n ih=>intro i h;rw[cC,sO,Ql hA (by omega),ih (i+1) (by omega)]
theorem CY(us:List zG)(n:Nat):∀i j,cC us n i=some j->i<=j/\j<i+n:=by
 induction n with
 | zero=>intro i j h;simp[cC]at h
 | succ n ih=>intro i j h;rw[cC]at h;split at h
              ·have:=ih _ _ h;omega
              ·obtain rfl:=co h;omega
theorem XM:∀i,fX ls n i=none->∀j,i<=j->j<i+n->mK ls j=false:=by
 induction n with
 | zero=>intro i _ j h1 h2;omega
 | succ n ih =>
   intro i h j h1 h2;rw[fX]at h;split at h
   ·cases h
   ·rename_i hm
    by_cases hj:j=i
    ·subst hj;simpa using hm
    ·exact ih (i+1) h j (by omega) (by omega)
theorem J7:∀i,sO ls n i=none->∀j,i<=j->j<i+n->pS ls j=0:=by
 induction n with
 | zero=>intro i _ j h1 h2;omega
 | succ n ih =>
   intro i h j h1 h2;rw[sO]at h;split at h
   ·rename_i hm
    by_cases hj:j=i
    ·subst hj;exact hm
    ·exact ih (i+1) h j (by omega) (by omega)
   ·cases h
theorem U7(k:Int)(xs ys:List zF):qD k (xs++ys)=qD k xs+qD k ys:=by
 induction xs with
 | nil=>simp[qD]
 | cons x r ih=>rw[bw,qD,ih,qD];omega
theorem J5(h:∀i,i<ls.length->mK ls i=false):qD 3 ls<=8:=by
 have key:∀n,n<=ls.length->qD 3 (ls.take n)<=8:=by
  intro n
  induction n with
  | zero=>intro _;simp[qD]
  | succ n ih =>
    intro hn;rw[pJ ls n (by omega),U7];have ih:=ih (by omega);by_cases hk:(lA ls n).kind=3
    ·have hm:=h n (by omega)
     unfold mK at hm;rw[ld,bk,hk]at hm;have hl:Zk 3=8:=by decide
     rw[hl]at hm;simp only[qD,hk,if_true];omega
    ·simp only[qD,tg hk];omega
 have:=key ls.length (t9 _)
 rwa [lj]at this
theorem ze(hA:yP ls us):zf us=kC ls:=by
 have hl:=hA.len;unfold zf kC;rw[U1 hA us.length 0 (by omega),<-hl]
 cases hm:fX ls ls.length 0 with
 | some i=>rfl
 | none =>
   simp only;unfold Zu J6;rw[Y1 hA us.length 0 (by omega),<-hl]
   cases he:sO ls ls.length 0 with
   | some i =>
     simp only
     have hi:i<us.length:=by
      have h1:=Y1 hA us.length 0 (by omega);rw[<-hl,he]at h1;have:=CY us ls.length 0 i (by rw[h1]);omega
     rw[Ql hA hi]
   | none =>
     simp only;have h1:=fun i (hi:i<ls.length)=>XM ls.length 0 hm i (tr _) (by omega);have h2:=fun i (hi:i<ls.length)=>J7 ls.length 0 he i (tr _) (by omega);have h8:=J5 h1
     have hn:(xH ls).Nodup:=by
      refine XQ ls (fun i hi hk=>?_);have:=h2 i hi;unfold pS at this;rw[tg (by rw[hk];decide),tg (by rw[hk];decide),tl hk]at this;unfold bM at this;split at this
      ·cases this
      ·rename_i hh
       cases hx:vR (ls.take i) 3 (lA ls i).name with
       | false=>rfl
       | true=>rw[hx]at hh;exact absurd rfl hh
     unfold ut Kg;rw[BP hA h8,FT hA h8 hn]
def yX(l:Bs):List zG:=(qV (yR l 0)).map (nZ (yR l 0))
def ZY(l:Bs):Int × Int:=if 4000<l.length then (1,0) else if 0<=tS l then (2,tS l) else zf (yX l)
theorem zAP{n:Nat}{l:Bs}(h:l.length<=4000->UO n l/\UP l):ZY l=aX l:=by
 unfold ZY aX;by_cases hl:4000<l.length
 ·rw[tl hl,tl hl]
 ·rw[tg hl,tg hl]
  obtain⟨hT,hC⟩:=h (by omega);cases hf:(xZ l).2.2
  ·rw[tg (by have:=hT.reads hf;omega)]
   exact ze (hC.lines hf)
  ·rw[tl (hT.fails hf),hC.place hf]
theorem Dy{w w':World}{v:Value}{ts:zG}(h:Fo w w' v ts)(zIW:ts.length<=4000):∃a c,v=.slice a ((qV ts).map (nZ ts)).length c/\bG w' a ((qV ts).map (nZ ts)):=by
 obtain⟨g,cap,zIA,hc,hm,zI8⟩:=h;have hln:=XO ts 0 0;rw[show uD ts 0 0=qV ts from rfl]at hln
 have hsm:∀u∈(qV ts).map (nZ ts),u.length<=10000:=fun u hu=>by
  obtain⟨p,hp,rfl⟩:=ml.1 hu;have:=Jx ts p hp;rw[Xw this];omega
 rcases Cb zI8 with ⟨h1,h2⟩|⟨gl,cl,h1,h2,h3⟩
 ·refine⟨none,0,by rw[h1,h2];rfl,⟨fun h0=>by rw[h2]at h0;simp at h0,by rw[ms];omega,hsm⟩⟩
 ·refine⟨some ⟨gl,0,none⟩,cl,by rw[h1,ms],⟨fun _=>⟨gl,rfl,fun i hi=>?_⟩,by rw[ms];omega,hsm⟩⟩
  rw[ms]at hi;have zIR:=h3 i hi;have hp:(qV ts).getD i (0,0)∈qV ts:=by simp[List.getD,hi]
  have zIK:=Jx ts _ hp
  have eu:uA ((qV ts).map (nZ ts)) i=nZ ts ((qV ts).getD i (0,0)):=by
   unfold uA;simp[List.getD,hi]
  rw[eu];generalize (qV ts).getD i (0,0)=p at *;refine⟨g,p.1*3,cap-p.1,?_,?_,?_,by omega⟩
  ·rw[zIR,Xw zIK];rfl
  ·have:=(zIA.drop p.1).take p.2;rw[lu]at this;exact this
  ·rw[Xw zIK];omega
theorem KP(l:Bs)(w:World)(hmax:l.length<=maxLen)(hf:jJ w)(hA:l.length<=4000->tS l<0->∃ls,yP ls (yX l)) :
 Calls Tryz.prog 39 #[.string ⟨l.toArray⟩] w fun e w'=>e=.returned (.tuple #[.int .i64 (ZY l).1,.int .i64 (ZY l).2])/\Below w.heap.size w w':=by
 unfold maxLen at hmax;by_cases hl:4000<l.length
 ·have HR:Hid (ZY l=(1,0)):=by unfold Hid ZY;rw[tl hl]
  generalize ZY l=ans at *;clear hA hf
  go_enter Tryz.func39,Tryz.ntmps39
  go_wp2_with fail
  go_ret2
  exact⟨kV (by rw[HR.out]) (by rw[HR.out]),tj _ _⟩
 ·have hl4:l.length<=4000:=by omega
  have HF:=zA (zBC l w hl4 hf);by_cases hfm:0<=tS l
  ·have HR:Hid (ZY l=(2,tS l)):=by unfold Hid ZY;rw[tg hl,tl hfm]
   generalize ZY l=ans at *;generalize tS l=fm at *;clear hA hf
   go_enter Tryz.func39,Tryz.ntmps39
   go_wp2_with fail
   refine HF.out.mono ?_;rintro e w1 ⟨rfl,zIS⟩;have HB:=zA zIS;clear zIS;go_wp2_with fail
   go_ret2
   exact⟨kV (by rw[HR.out]) (by rw[HR.out]),HB.out⟩
  ·obtain⟨ls,hAA⟩:=hA hl4 (by omega)
   have HA:=zA hAA;have HR:Hid (ZY l=zf (yX l)):=by unfold Hid ZY;rw[tg hl,tg hfm]
   have HL:Hid (∀w:World,Calls Tryz.prog 63 #[.string ⟨l.toArray⟩] w fun e w'=>∃a c,e=.returned (.slice a (yX l).length c)/\bG w' a (yX l)/\Below w.heap.size w w'):=fun w=>by
    refine(JP l w hl4).mono ?_;rintro e w' ⟨v,rfl,h1,h2⟩;obtain⟨a,c,rfl,h3⟩:=Dy h1 (tx (kY l 0) hl4);exact⟨a,c,rfl,h3,h2⟩
   generalize ZY l=ans at *;generalize yX l=us at *;generalize tS l=fm at *;clear hA hf hAA;have hfm2:fm<0:=by omega
   clear hfm
   go_enter Tryz.func39,Tryz.ntmps39
   go_wp2_with fail
   refine HF.out.mono ?_;rintro e w1 ⟨rfl,zIS⟩;have HB1:=zA zIS;clear zIS HF;go_wp2_with fail
   refine(HL.out w1).mono ?_;rintro e w2 ⟨a,c,rfl,zIT,hbel2⟩;have HB2:Hid (Below w.heap.size w w2):=HB1.out.trans (hbel2.mono HB1.out.size);have HRow:=zA zIT;have zII:=zIT.few;clear hbel2 zIT HL HB1;go_wp2_with fail
   go_loopw [6] (fun iv wr=>∃(i:Nat),i<=us.length/\iv=.int .i64 i/\Hid (Below w2.heap.size w2 wr)/\Hid (gO us (us.length-i) i=gO us us.length 0)) (fun iv _=>us.length-(intOf iv).toNat)
   case atStart=>exact⟨0,tr _,rfl,zA (tj _ _),zA rfl⟩
   case round =>
    obtain⟨i,hi,rfl,HB,HE⟩:=hrel;by_cases zI6:i<us.length
    ·have HC:=zA (zi wr a c ls us i zI6 (HRow.out.below HB.out) HA.out)
     have hE:=HE.out;rw[show us.length-i=(us.length-(i+1))+1 by omega,gO]at hE;have HE2:=zA hE;clear HE hE;generalize mB us i=z at *;cases z
     ·have HE3:Hid (gO us (us.length-(i+1)) (i+1)=gO us us.length 0):=by have:=HE2.out;rw[tg dc]at this;exact this
      clear HE2;go_wp2_with fail
      refine HC.out.mono ?_;rintro e w3 ⟨rfl,hb3⟩;have HB3:Hid (Below w2.heap.size w2 w3):=HB.out.trans (hb3.mono HB.out.size);clear hb3;go_wp2_with fail
      go_roundw
      case rel=>exact⟨i+1,by omega,by go_num,HB3,HE3⟩
      case measure=>simp[intOf];omega
     ·have HF2:Hid (ans=(3,(i:Int))):=by
       have:some i=gO us us.length 0:=by have:=HE2.out;rw[tl rfl]at this;exact this
       unfold Hid;rw[HR.out,zf,<-this]
      clear HE2 HR;go_wp2_with fail
      refine HC.out.mono ?_;rintro e w3 ⟨rfl,hb3⟩;have HB3:Hid (Below w.heap.size w w3):=(HB2.out.trans (HB.out.mono HB2.out.size)).trans (hb3.mono (tx HB2.out.size HB.out.size));clear hb3;go_wp2_with fail
      go_ret2
      exact⟨kV (by rw[HF2.out]) (by rw[HF2.out]),HB3.out⟩
    ·have HR2:Hid (ans=Zu us):=by
      have:=HE.out;rw[show us.length-i=0 by omega]at this;unfold Hid;rw[HR.out,zf,<-this];rfl
     clear HE HR;obtain⟨wq,hwq⟩:∃wq,wq=wr:=⟨_,rfl⟩;subst hwq;go_wp2_with fail
     go_loopw [8] (fun iv wr=>∃(i:Nat),i<=us.length/\iv=.int .i64 i/\Hid (Below w2.heap.size w2 wr)/\Hid (cC us (us.length-i) i=cC us us.length 0)) (fun iv _=>us.length-(intOf iv).toNat)
     case atStart=>exact⟨0,tr _,rfl,HB,zA rfl⟩
     case round =>
      obtain⟨j,hj,rfl,HBj,HEj⟩:=hrel;have zJ2:Hid (Below w.heap.size w wr):=HB2.out.trans (HBj.out.mono HB2.out.size);by_cases hltj:j<us.length
      ·have HC:=zA (zDY wr a c ls us j hltj (HRow.out.below HBj.out) HA.out)
       have hE:=HEj.out;rw[show us.length-j=(us.length-(j+1))+1 by omega,cC]at hE;have HE2:=zA hE;clear HEj hE;by_cases hz:jV us j=0
       ·have HE3:Hid (cC us (us.length-(j+1)) (j+1)=cC us us.length 0):=by have:=HE2.out;rw[tl hz]at this;exact this
        rw[hz]at HC;clear HE2 hz;go_wp2_with fail
        refine HC.out.mono ?_;rintro e w3 ⟨rfl,hb3⟩;have HB3:Hid (Below w2.heap.size w2 w3):=HBj.out.trans (hb3.mono HBj.out.size);clear hb3;go_wp2_with fail
        go_roundw
        case rel=>exact⟨j+1,by omega,by go_num,HB3,HE3⟩
        case measure=>simp[intOf];omega
       ·have HF2:Hid (ans=(jV us j,(j:Int))):=by
         have:some j=cC us us.length 0:=by have:=HE2.out;rw[tg hz]at this;exact this
         unfold Hid;rw[HR2.out,Zu,<-this]
        clear HE2;generalize jV us j=fz at *;have be:(fz != 0)=true:=by simpa using hz
        clear hz;go_wp2_with fail
        refine HC.out.mono ?_;rintro e w3 ⟨rfl,hb3⟩;have HB3:Hid (Below w.heap.size w w3):=zJ2.out.trans (hb3.mono zJ2.out.size);clear hb3;go_wp2_with fail
        go_ret2
        exact⟨kV (by rw[HF2.out]) (by rw[HF2.out]),HB3.out⟩
      ·have HR3:Hid (ans=if fB us false=true then (7,0) else if fB us true=true then (7,1) else (0,0)):=by
        have:=HEj.out;rw[show us.length-j=0 by omega]at this;unfold Hid;rw[HR2.out,Zu,<-this];rfl
       clear HEj HR2;have HG0:=zA (Vx wr a c ls us false (HRow.out.below HBj.out) HA.out);have HG1:=zA (fun w' (hb:Below w2.heap.size w2 w')=>Vx w' a c ls us true (HRow.out.below hb) HA.out);generalize fB us false=z0 at *;generalize fB us true=z1 at *;go_wp2_with fail
       refine HG0.out.mono ?_;rintro e w3 ⟨rfl,hb3⟩;have HB3:Hid (Below w2.heap.size w2 w3):=HBj.out.trans (hb3.mono HBj.out.size);clear hb3;cases z0
       ·have HR4:Hid (ans=if z1=true then (7,1) else (0,0)):=by have:=HR3.out;rw[tg dc]at this;exact this
        clear HR3;go_wp2_with fail
        refine(HG1.out _ HB3.out).mono ?_;rintro e w4 ⟨rfl,hb4⟩;have HB4:Hid (Below w.heap.size w w4):=(HB2.out.trans (HB3.out.mono HB2.out.size)).trans (hb4.mono (tx HB2.out.size HB3.out.size));clear hb4;cases z1
        ·have HR5:Hid (ans=(0,0)):=by have:=HR4.out;rw[tg dc]at this;exact this
         clear HR4;go_wp2_with fail
         go_ret2
         exact⟨kV (by rw[HR5.out]) (by rw[HR5.out]),HB4.out⟩
        ·have HR5:Hid (ans=(7,1)):=by have:=HR4.out;rw[tl rfl]at this;exact this
         clear HR4;go_wp2_with fail
         go_ret2
         exact⟨kV (by rw[HR5.out]) (by rw[HR5.out]),HB4.out⟩
       ·have HR4:Hid (ans=(7,0)):=by have:=HR3.out;rw[tl rfl]at this;exact this
        have HB4:Hid (Below w.heap.size w w3):=HB2.out.trans (HB3.out.mono HB2.out.size);clear HR3;go_wp2_with fail
        go_ret2
        exact⟨kV (by rw[HR4.out]) (by rw[HR4.out]),HB4.out⟩
end Go.Proofs.YtnbpdffdnphbeaaGreatDoor
