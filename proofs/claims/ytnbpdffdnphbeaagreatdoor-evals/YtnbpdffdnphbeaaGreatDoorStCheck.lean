import Derived.Test.YtnbpdffdnphbeaaGreatDoorRfHeads
import Derived.Test.YtnbpdffdnphbeaaGreatDoorRfNamed
set_option maxHeartbeats 4000000
namespace Go.Proofs.YtnbpdffdnphbeaaGreatDoor
open Go.RowKit
def bB(l:Bs):Int × Int:=if 4000<l.length then (1,0) else match (xS l).2.2 with|true=>(2,((yO (lW l) (xS l).2.1).p:Int))|false=>qP (xS l).1
theorem zDY{w:World}{B:Nat}{lv:Value}{ls:List LX}(h:Kh w B lv ls)(hg:∀x∈ls,gW x.1)(hf:ls.length<=10000):∃a c,lv=.slice a ls.length c/\ls.length<=c/\pB w a ls:=by
 have hrows:∀x∈ls,Yj w x:=fun x hx=>by
  refine⟨Qa.of_rows (h.2 x hx),hg x hx,?_⟩;rcases(h.2 x hx).2.2 with ⟨_,h2⟩|⟨_,cap,_,_,_,_,h4,h5,_,_⟩
  ·rw[h2];exact Nat.zero_le _
  ·exact Nat.le_trans h4 h5
 rcases h.1.2 with ⟨h1,h2⟩|⟨gl,cap,yO,h1,_,h3,h4,_,_,h7⟩
 ·exact⟨none,0,by rw[h1,h2],by omega,⟨fun h0=>by omega,hrows,hf⟩⟩
 ·exact⟨_,cap,h1,h4,⟨fun _=>⟨gl,yO,rfl,h3,h7⟩,hrows,hf⟩⟩
def nH(us:List zJ):Nat->Nat->Option Nat
 | 0,_=>none
 | n+1,i=>if pV us i=true then some i else nH us n (i+1)
def bU(us:List zJ):Nat->Nat->Option Nat
 | 0,_=>none
 | n+1,i=>if jM us i=0 then bU us n (i+1) else some i
def zo(us:List zJ):Int × Int:=if dZ us false=true then (7,0) else if dZ us true=true then (7,1) else (0,0)
def Zi(us:List zJ):Int × Int:=match bU us us.length 0 with|some i=>(jM us i,(i:Int))|none=>zo us
def FV(us:List zJ):Int × Int:=match nH us us.length 0 with|some i=>(3,(i:Int))|none=>Zi us
theorem VA{ls:List zH}{us:List zJ}(hA:yY ls us)(n:Nat):∀i,i+n=us.length->nH us n i=gE ls n i:=by
 induction n with
 | zero=>intro i _;rfl
 | succ n ih=>intro i h;rw[nH,gE,BW hA (by omega),ih (i+1) (by omega)]
theorem Yc{ls:List zH}{us:List zJ}(hA:yY ls us)(n:Nat):∀i,i+n=us.length->bU us n i=aC ls n i:=by
 induction n with
 | zero=>intro i _;rfl
 | succ n ih=>intro i h;rw[bU,aC,XM hA (by omega),ih (i+1) (by omega)]
theorem BU(us:List zJ)(n:Nat):∀i j,bU us n i=some j->i<=j/\j<i+n:=by
 induction n with
 | zero=>intro i j h;simp[bU]at h
 | succ n ih=>intro i j h;rw[bU]at h;split at h
              ·have:=ih _ _ h;omega
              ·obtain rfl:=Option.some.inj h;omega
theorem Xx{ls:List zH}(n:Nat):∀i,gE ls n i=none->∀j,i<=j->j<i+n->lL ls j=false:=by
 induction n with
 | zero=>intro i _ j h1 h2;omega
 | succ n ih =>
   intro i h j h1 h2;rw[gE]at h;split at h
   ·cases h
   ·rename_i hm
    by_cases hj:j=i
    ·subst hj;simpa using hm
    ·exact ih (i+1) h j (by omega) (by omega)
theorem Jb{ls:List zH}(n:Nat):∀i,aC ls n i=none->∀j,i<=j->j<i+n->pU ls j=0:=by
 induction n with
 | zero=>intro i _ j h1 h2;omega
 | succ n ih =>
   intro i h j h1 h2;rw[aC]at h;split at h
   ·rename_i hm
    by_cases hj:j=i
    ·subst hj;exact hm
    ·exact ih (i+1) h j (by omega) (by omega)
   ·cases h
theorem qg(k:Int)(xs ys:List zH):kO k (xs++ys)=kO k xs+kO k ys:=by
 induction xs with
 | nil=>simp[kO]
 | cons x r ih=>rw[List.cons_append,kO,ih,kO];omega
theorem QZ{ls:List zH}(h:∀i,i<ls.length->lL ls i=false):kO 3 ls<=8:=by
 have key:∀n,n<=ls.length->kO 3 (ls.take n)<=8:=by
  intro n
  induction n with
  | zero=>intro _;simp[kO]
  | succ n ih =>
    intro hn;rw[lI ls n (by omega),qg];have ih:=ih (by omega);by_cases hk:(lA ls n).kind=3
    ·have hm:=h n (by omega)
     unfold lL at hm;rw[Bool.or_eq_false_iff,decide_eq_false_iff_not,hk]at hm;have hl:Z3 3=8:=by decide
     rw[hl]at hm;simp only[kO,hk,if_true];omega
    ·simp only[kO,if_neg hk];omega
 have:=key ls.length (Nat.le_refl _)
 rwa [List.take_length]at this
theorem FU{ls:List zH}{us:List zJ}(hA:yY ls us):FV us=qP ls:=by
 have hl:=hA.len;unfold FV qP;rw[VA hA us.length 0 (by omega),<-hl]
 cases hm:gE ls ls.length 0 with
 | some i=>rfl
 | none =>
   simp only;unfold Zi Ja;rw[Yc hA us.length 0 (by omega),<-hl]
   cases he:aC ls ls.length 0 with
   | some i =>
     simp only
     have hi:i<us.length:=by
      have h1:=Yc hA us.length 0 (by omega);rw[<-hl,he]at h1;have:=BU us ls.length 0 i (by rw[h1]);omega
     rw[XM hA hi]
   | none =>
     simp only;have h1:=fun i (hi:i<ls.length)=>Xx ls.length 0 hm i (Nat.zero_le _) (by omega);have h2:=fun i (hi:i<ls.length)=>Jb ls.length 0 he i (Nat.zero_le _) (by omega);have h8:=QZ h1
     have hn:(xA ls).Nodup:=by
      refine X1 ls (fun i hi hk=>?_);have:=h2 i hi;unfold pU at this;rw[if_neg (by rw[hk];decide),if_neg (by rw[hk];decide),if_pos hk]at this;unfold cC at this;split at this
      ·cases this
      ·rename_i hh
       cases hx:uJ (ls.take i) 3 (lA ls i).name with
       | false=>rfl
       | true=>rw[hx]at hh;exact absurd rfl hh
     unfold zo J0;rw[UJ hA h8,DC hA h8 hn]
def pM(l:Bs):List zJ:=(qM (zP l 0)).map (oH (zP l 0))
def ZF(l:Bs):Int × Int:=if 4000<l.length then (1,0) else if 0<=tL l then (2,tL l) else FV (pM l)
theorem qi{n:Nat}{l:Bs}(h:l.length<=4000->VY n l/\VZ l):ZF l=bB l:=by
 unfold ZF bB;by_cases hl:4000<l.length
 ·rw[if_pos hl,if_pos hl]
 ·rw[if_neg hl,if_neg hl]
  obtain⟨hT,hC⟩:=h (by omega);cases hf:(xS l).2.2
  ·rw[if_neg (by have:=hT.reads hf;omega)]
   exact FU (hC.lines hf)
  ·rw[if_pos (hT.fails hf),hC.place hf]
theorem C4{w w':World}{v:Value}{ts:zJ}(h:Di w w' v ts)(zGM:ts.length<=4000):∃a c,v=.slice a ((qM ts).map (oH ts)).length c/\lV w' a ((qM ts).map (oH ts)):=by
 obtain⟨g,cap,zG3,hc,hm,zG0⟩:=h;have hln:=iJ ts 0 0;rw[show vY ts 0 0=qM ts from rfl]at hln
 have hsm:∀u∈(qM ts).map (oH ts),u.length<=10000:=fun u hu=>by
  obtain⟨p,hp,rfl⟩:=List.mem_map.1 hu;have:=QQ ts p hp;rw[YT this];omega
 rcases UV zG0 with ⟨h1,h2⟩|⟨gl,cl,h1,h2,h3⟩
 ·refine⟨none,0,by rw[h1,h2];rfl,⟨fun h0=>by rw[h2]at h0;simp at h0,by rw[List.length_map];omega,hsm⟩⟩
 ·refine⟨some ⟨gl,0,none⟩,cl,by rw[h1,List.length_map],⟨fun _=>⟨gl,rfl,fun i hi=>?_⟩,by rw[List.length_map];omega,hsm⟩⟩
  rw[List.length_map]at hi;have zGH:=h3 i hi;have hp:(qM ts).getD i (0,0)∈qM ts:=by simp[List.getD,hi]
  have zGA:=QQ ts _ hp
  have eu:uA ((qM ts).map (oH ts)) i=oH ts ((qM ts).getD i (0,0)):=by
   unfold uA;simp[List.getD,hi]
  rw[eu];generalize (qM ts).getD i (0,0)=p at *;refine⟨g,p.1*3,cap-p.1,?_,?_,?_,by omega⟩
  ·rw[zGH,YT zGA];rfl
  ·have:=(zG3.drop p.1).take p.2;rw[Nat.zero_add]at this;exact this
  ·rw[YT zGA];omega
theorem Kc(l:Bs)(w:World)(zGN:l.length<=maxLen)(hf:kT w)(hA:l.length<=4000->tL l<0->∃ls,yY ls (pM l)) :
 Calls Tryz.prog 39 #[.string ⟨l.toArray⟩] w fun e w'=>e=.returned (.tuple #[.int .i64 (ZF l).1,.int .i64 (ZF l).2])/\Below w.heap.size w w':=by
 unfold maxLen at zGN;by_cases hl:4000<l.length
 ·have HR:Hid (ZF l=(1,0)):=by unfold Hid ZF;rw[if_pos hl]
  generalize ZF l=ans at *;clear hA hf
  go_enter Tryz.func39,Tryz.ntmps39
  go_wp2_with fail
  go_ret2
  exact⟨kK (by rw[HR.out]) (by rw[HR.out]),Below.refl _ _⟩
 ·have hl4:l.length<=4000:=by omega
  have HF:=zA (j6 l w hl4 hf);by_cases hfm:0<=tL l
  ·have HR:Hid (ZF l=(2,tL l)):=by unfold Hid ZF;rw[if_neg hl,if_pos hfm]
   generalize ZF l=ans at *;generalize tL l=fm at *;clear hA hf
   go_enter Tryz.func39,Tryz.ntmps39
   go_wp2_with fail
   refine HF.out.mono ?_;rintro e w1 ⟨rfl,zGI⟩;have HB:=zA zGI;clear zGI;go_wp2_with fail
   go_ret2
   exact⟨kK (by rw[HR.out]) (by rw[HR.out]),HB.out⟩
  ·obtain⟨ls,hAA⟩:=hA hl4 (by omega)
   have HA:=zA hAA;have HR:Hid (ZF l=FV (pM l)):=by unfold Hid ZF;rw[if_neg hl,if_neg hfm]
   have HL:Hid (∀w:World,Calls Tryz.prog 63 #[.string ⟨l.toArray⟩] w fun e w'=>∃a c,e=.returned (.slice a (pM l).length c)/\lV w' a (pM l)/\Below w.heap.size w w'):=fun w=>by
    refine(Jp l w hl4).mono ?_;rintro e w' ⟨v,rfl,h1,h2⟩;obtain⟨a,c,rfl,h3⟩:=C4 h1 (Nat.le_trans (uU l 0) hl4);exact⟨a,c,rfl,h3,h2⟩
   generalize ZF l=ans at *;generalize pM l=us at *;generalize tL l=fm at *;clear hA hf hAA;have hfm2:fm<0:=by omega
   clear hfm
   go_enter Tryz.func39,Tryz.ntmps39
   go_wp2_with fail
   refine HF.out.mono ?_;rintro e w1 ⟨rfl,zGI⟩;have HB1:=zA zGI;clear zGI HF;go_wp2_with fail
   refine(HL.out w1).mono ?_;rintro e w2 ⟨a,c,rfl,zGQ,hbel2⟩;have HB2:Hid (Below w.heap.size w w2):=HB1.out.trans (hbel2.mono HB1.out.size);have HRow:=zA zGQ;have zGG:=zGQ.few;clear hbel2 zGQ HL HB1;go_wp2_with fail
   go_loopw [6] (fun iv wr=>∃(i:Nat),i<=us.length/\iv=.int .i64 i/\Hid (Below w2.heap.size w2 wr)/\Hid (nH us (us.length-i) i=nH us us.length 0)) (fun iv _=>us.length-(intOf iv).toNat)
   case atStart=>exact⟨0,Nat.zero_le _,rfl,zA (Below.refl _ _),zA rfl⟩
   case round =>
    obtain⟨i,hi,rfl,HB,HE⟩:=hrel;by_cases zFY:i<us.length
    ·have HC:=zA (FX wr a c ls us i zFY (HRow.out.below HB.out) HA.out)
     have hE:=HE.out;rw[show us.length-i=(us.length-(i+1))+1 by omega,nH]at hE;have HE2:=zA hE;clear HE hE;generalize pV us i=z at *;cases z
     ·have HE3:Hid (nH us (us.length-(i+1)) (i+1)=nH us us.length 0):=by have:=HE2.out;rw[if_neg Bool.false_ne_true]at this;exact this
      clear HE2;go_wp2_with fail
      refine HC.out.mono ?_;rintro e w3 ⟨rfl,hb3⟩;have HB3:Hid (Below w2.heap.size w2 w3):=HB.out.trans (hb3.mono HB.out.size);clear hb3;go_wp2_with fail
      go_roundw
      case rel=>exact⟨i+1,by omega,by go_num,HB3,HE3⟩
      case measure=>simp[intOf];omega
     ·have HF2:Hid (ans=(3,(i:Int))):=by
       have:some i=nH us us.length 0:=by have:=HE2.out;rw[if_pos rfl]at this;exact this
       unfold Hid;rw[HR.out,FV,<-this]
      clear HE2 HR;go_wp2_with fail
      refine HC.out.mono ?_;rintro e w3 ⟨rfl,hb3⟩;have HB3:Hid (Below w.heap.size w w3):=(HB2.out.trans (HB.out.mono HB2.out.size)).trans (hb3.mono (Nat.le_trans HB2.out.size HB.out.size));clear hb3;go_wp2_with fail
      go_ret2
      exact⟨kK (by rw[HF2.out]) (by rw[HF2.out]),HB3.out⟩
    ·have HR2:Hid (ans=Zi us):=by
      have:=HE.out;rw[show us.length-i=0 by omega]at this;unfold Hid;rw[HR.out,FV,<-this];rfl
     clear HE HR;obtain⟨wq,hwq⟩:∃wq,wq=wr:=⟨_,rfl⟩;subst hwq;go_wp2_with fail
     go_loopw [8] (fun iv wr=>∃(i:Nat),i<=us.length/\iv=.int .i64 i/\Hid (Below w2.heap.size w2 wr)/\Hid (bU us (us.length-i) i=bU us us.length 0)) (fun iv _=>us.length-(intOf iv).toNat)
     case atStart=>exact⟨0,Nat.zero_le _,rfl,HB,zA rfl⟩
     case round =>
      obtain⟨j,hj,rfl,HBj,HEj⟩:=hrel;have zGJ:Hid (Below w.heap.size w wr):=HB2.out.trans (HBj.out.mono HB2.out.size);by_cases hltj:j<us.length
      ·have HC:=zA (zBN wr a c ls us j hltj (HRow.out.below HBj.out) HA.out)
       have hE:=HEj.out;rw[show us.length-j=(us.length-(j+1))+1 by omega,bU]at hE;have HE2:=zA hE;clear HEj hE;by_cases hz:jM us j=0
       ·have HE3:Hid (bU us (us.length-(j+1)) (j+1)=bU us us.length 0):=by have:=HE2.out;rw[if_pos hz]at this;exact this
        rw[hz]at HC;clear HE2 hz;go_wp2_with fail
        refine HC.out.mono ?_;rintro e w3 ⟨rfl,hb3⟩;have HB3:Hid (Below w2.heap.size w2 w3):=HBj.out.trans (hb3.mono HBj.out.size);clear hb3;go_wp2_with fail
        go_roundw
        case rel=>exact⟨j+1,by omega,by go_num,HB3,HE3⟩
        case measure=>simp[intOf];omega
       ·have HF2:Hid (ans=(jM us j,(j:Int))):=by
         have:some j=bU us us.length 0:=by have:=HE2.out;rw[if_neg hz]at this;exact this
         unfold Hid;rw[HR2.out,Zi,<-this]
        clear HE2;generalize jM us j=fz at *;have be:(fz != 0)=true:=by simpa using hz
        clear hz;go_wp2_with fail
        refine HC.out.mono ?_;rintro e w3 ⟨rfl,hb3⟩;have HB3:Hid (Below w.heap.size w w3):=zGJ.out.trans (hb3.mono zGJ.out.size);clear hb3;go_wp2_with fail
        go_ret2
        exact⟨kK (by rw[HF2.out]) (by rw[HF2.out]),HB3.out⟩
      ·have HR3:Hid (ans=if dZ us false=true then (7,0) else if dZ us true=true then (7,1) else (0,0)):=by
        have:=HEj.out;rw[show us.length-j=0 by omega]at this;unfold Hid;rw[HR2.out,Zi,<-this];rfl
       clear HEj HR2;have HG0:=zA (K5 wr a c ls us false (HRow.out.below HBj.out) HA.out);have HG1:=zA (fun w' (hb:Below w2.heap.size w2 w')=>K5 w' a c ls us true (HRow.out.below hb) HA.out);generalize dZ us false=z0 at *;generalize dZ us true=z1 at *;go_wp2_with fail
       refine HG0.out.mono ?_;rintro e w3 ⟨rfl,hb3⟩;have HB3:Hid (Below w2.heap.size w2 w3):=HBj.out.trans (hb3.mono HBj.out.size);clear hb3;cases z0
       ·have HR4:Hid (ans=if z1=true then (7,1) else (0,0)):=by have:=HR3.out;rw[if_neg Bool.false_ne_true]at this;exact this
        clear HR3;go_wp2_with fail
        refine(HG1.out _ HB3.out).mono ?_;rintro e w4 ⟨rfl,hb4⟩;have HB4:Hid (Below w.heap.size w w4):=(HB2.out.trans (HB3.out.mono HB2.out.size)).trans (hb4.mono (Nat.le_trans HB2.out.size HB3.out.size));clear hb4;cases z1
        ·have HR5:Hid (ans=(0,0)):=by have:=HR4.out;rw[if_neg Bool.false_ne_true]at this;exact this
         clear HR4;go_wp2_with fail
         go_ret2
         exact⟨kK (by rw[HR5.out]) (by rw[HR5.out]),HB4.out⟩
        ·have HR5:Hid (ans=(7,1)):=by have:=HR4.out;rw[if_pos rfl]at this;exact this
         clear HR4;go_wp2_with fail
         go_ret2
         exact⟨kK (by rw[HR5.out]) (by rw[HR5.out]),HB4.out⟩
       ·have HR4:Hid (ans=(7,0)):=by have:=HR3.out;rw[if_pos rfl]at this;exact this
        have HB4:Hid (Below w.heap.size w w3):=HB2.out.trans (HB3.out.mono HB2.out.size);clear HR3;go_wp2_with fail
        go_ret2
        exact⟨kK (by rw[HR4.out]) (by rw[HR4.out]),HB4.out⟩
end Go.Proofs.YtnbpdffdnphbeaaGreatDoor
