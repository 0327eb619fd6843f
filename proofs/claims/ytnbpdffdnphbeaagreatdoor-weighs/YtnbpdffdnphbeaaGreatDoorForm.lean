import Derived.Test.YtnbpdffdnphbeaaGreatDoorTokens
set_option maxHeartbeats 1000000
namespace Go.Proofs.YtnbpdffdnphbeaaGreatDoor
open Go.RowKit
def qT(w:World)(g o:Nat)(ts:List (Nat × Bs)):Prop:=∀i,i<ts.length ->
 w.cell? ⟨g,o+i*3,none⟩=some (.string ⟨(ts.getD i (0,[])).2.toArray⟩)/\w.cell? ⟨g,o+i*3+1,none⟩=some (.int .i64 (ts.getD i (0,[])).1)/\w.cell? ⟨g,o+i*3+2,none⟩=some (.string ⟨(zX (ts.getD i (0,[])).2).toArray⟩)
theorem FJ(ts:List (Nat × Bs)):∀i,i<ts.length ->
 (rC ts)[i*3]? = some (.string ⟨(ts.getD i (0,[])).2.toArray⟩)/\(rC ts)[i*3+1]? = some (.int .i64 (ts.getD i (0,[])).1)/\(rC ts)[i*3+2]? = some (.string ⟨(zX (ts.getD i (0,[])).2).toArray⟩):=by
 induction ts with
 | nil=>intro i h;simp at h
 | cons t r ih =>
   intro i h;have e:rC (t::r)=UK t++rC r:=by simp[rC]
   cases i with
   | zero=>rw[e];simp[UK]
   | succ i =>
     have zG5:(UK t).length=3:=rfl;have hi:=ih i (by simpa using h);rw[e];refine⟨?_,?_,?_⟩
     ·rw[List.getElem?_append_right (by rw[zG5];omega),zG5,show (i+1)*3-3=i*3 by omega];simpa using hi.1
     ·rw[List.getElem?_append_right (by rw[zG5];omega),zG5,show (i+1)*3+1-3=i*3+1 by omega];simpa using hi.2.1
     ·rw[List.getElem?_append_right (by rw[zG5];omega),zG5,show (i+1)*3+2-3=i*3+2 by omega];simpa using hi.2.2
theorem aW{w:World}{g:Nat}{yP:Array Value}{e:TypeId}{fz:Nat × Nat}{k n:Nat}{xs:List Value}{u:Value}
 (hb:w.heap[g]? = some (.cells yP e fz)) (ht:yP.toList.take n=xs) (hx:xs[k]? = some u):w.cell? ⟨g,k,none⟩=some u:=by
 have h1:yP.toList[k]? = some u:=by
  rw[<-ht,List.getElem?_take]at hx;split at hx
  ·exact hx
  ·cases hx
 simp[World.cell?,hb];simpa using h1
theorem Xg{w:World}{base:Nat}{v:Value}{ts:List (Nat × Bs)}(h:w.ownsRow base 193 3 v ts.length (rC ts)) :
 (v=.slice none 0 0/\ts=[])\/∃g cap,v=.slice (some ⟨g,0,none⟩) ts.length cap/\base<=g/\g<w.heap.size/\ts.length<=cap/\cap<=maxLen/\qT w g 0 ts:=by
 rcases h.2 with ⟨h1,h2⟩|⟨g,cap,yP,h1,h2,h3,h4,h5,h6,h7⟩
 ·exact .inl ⟨h1,List.eq_nil_of_length_eq_zero h2⟩
 ·refine .inr ⟨g,cap,h1,h2,?_,h4,h5,?_⟩
  ·rcases Nat.lt_or_ge g w.heap.size with h|h
   ·exact h
   ·rw[Array.getElem?_eq_none h]at h3;cases h3
  ·intro i hi
   obtain⟨a,b,c⟩:=FJ ts i hi;refine⟨?_,?_,?_⟩
   ·rw[Nat.zero_add];exact aW h3 h7 a
   ·rw[Nat.zero_add];exact aW h3 h7 b
   ·rw[Nat.zero_add];exact aW h3 h7 c
theorem kT.below{w w':World}(h:kT w)(hb:Below w.heap.size w w'):kT w':=by
 have h0:0<w.heap.size:=by
  have:=h 0 (by omega);rcases Nat.eq_zero_or_pos w.heap.size with h1|h1
  ·rw[World.cell?,Array.getElem?_eq_none (by simpa using h1)]at this;cases this
  ·exact h1
 intro j hj;rw[hb.cell (p:=⟨0,j,none⟩) h0];exact h j hj
theorem j7(l:Bs)(w:World)(hl:l.length<=4000)(hf:kT w) :
 Calls Tryz.prog 74 #[.string ⟨l.toArray⟩] w fun e w'=>e=.returned (.int .i64 (tM l))/\Below w.heap.size w w':=by
 have HW:Hid (kT w):=hf;clear hf
 go_enter Tryz.func74,Tryz.ntmps74
 go_wp2_with (go_at_call 109;refine(iN l _ hl).mono ?_;rintro e w1 ⟨v,rfl,zG1,zGJ⟩)
 have HF1:Hid (kT w1):=HW.out.below zGJ;have HR:Hid (tM l=kR l.length (zP l 0) kX 0):=rfl;have zGN:=uU l 0;generalize zP l 0=ts at *;rcases Xg zG1 with ⟨rfl,rfl⟩|⟨g,cap,rfl,_,_,hcap,zGO,zG4⟩
 ·clear zG1 zGN
  go_loop [4,5,6] (fun sv ov iv=>sv=.string ⟨kX.toArray⟩/\ov=.int .i64 0/\iv=.int .i64 0) (fun _ _ _=>0)
  case atStart=>exact⟨rfl,rfl,rfl⟩
  case round =>
   obtain⟨rfl,rfl,rfl⟩:=hrel;have hs:(!kX==[108,105,110,101])=false:=by decide
   go_wp2_with fail
   go_ret;exact⟨yA (by rw[HR.out];rfl),zGJ⟩
 ·have HS:Hid (qT w1 g 0 ts):=zG4
  clear zG1 zG4
  go_loop [4,5,6] (fun sv ov iv=>∃(i:Nat) (st:Bs) (op:Int),i<=ts.length/\sv=.string ⟨st.toArray⟩/\ov=.int .i64 op/\iv=.int .i64 i /\ -(i:Int)<=op/\op<=i/\Hid (kR l.length (ts.drop i) st op=tM l)) (fun _ _ iv=>ts.length-(intOf iv).toNat)
  case atStart=>exact⟨0,kX,0,Nat.zero_le _,rfl,rfl,rfl,by omega,by omega,HR.out.symm⟩
  case round =>
   obtain⟨i,st,op,hi,rfl,rfl,rfl,ho1,ho2,HI⟩:=hrel;by_cases zFZ:i<ts.length
   ·obtain⟨_,hc1,hc2⟩:=HS.out i zFZ
    have HD:Hid (ts.drop i=ts.getD i (0,[])::ts.drop (i+1)):=zO ts i zFZ;obtain⟨tk,htk⟩:∃tk,ts.getD i (0,[])=tk:=⟨_,rfl⟩;rw[htk]at hc1 hc2 HD;obtain⟨cl,zGM⟩:∃cl,zX tk.2=cl:=⟨_,rfl⟩;rw[zGM]at hc2;obtain⟨st2,hst2⟩:∃st2,zT st cl op=st2:=⟨_,rfl⟩;have HN:Hid (zT st cl op=st2):=hst2
    have HI2:Hid ((if st2=[] then (tk.1:Int) else kR l.length (ts.drop (i+1)) st2 (if cl=yU then op+1 else if cl=vD then op-1 else op))=tM l):=by
     have:=HI.out;rw[HD.out,kR,zGM,hst2]at this;exact this
    clear htk zGM hst2 HI HD;simp only[Nat.zero_add]at hc1 hc2;by_cases zGE:st2=[]
    ·have he:List.isEmpty st2=true:=by simp[zGE]
     have HE:Hid ((tk.1:Int)=tM l):=by have:=HI2.out;rw[if_pos zGE]at this;exact this
     clear zGE HI2
     go_wp2_with (go_at_call 128;refine(wP st cl op _ HF1.out).mono ?_;rintro e w' ⟨rfl,hw⟩;obtain rfl:=hw.symm;rw[HN.out])
     go_ret;exact⟨yA HE.out,zGJ⟩
    ·have he:List.isEmpty st2=false:=by simp[zGE]
     have HE:Hid (kR l.length (ts.drop (i+1)) st2 (if cl=yU then op+1 else if cl=vD then op-1 else op)=tM l):=by have:=HI2.out;rw[if_neg zGE]at this;exact this
     clear zGE HI2;by_cases k1:cl=yU
     ·have HG:Hid (kR l.length (ts.drop (i+1)) st2 (op+1)=tM l):=by have:=HE.out;rw[if_pos k1]at this;exact this
      have b1:(cl==[40])=true:=by rw[k1];rfl
      have b2:(cl==[41])=false:=by rw[k1];rfl
      clear k1 HE
      go_wp2_with (go_at_call 128;refine(wP st cl op _ HF1.out).mono ?_;rintro e w' ⟨rfl,hw⟩;obtain rfl:=hw.symm;rw[HN.out])
      go_round
      case rel=>exact⟨i+1,st2,op+1,by omega,rfl,rfl,by go_num,by omega,by omega,HG.out⟩
      case measure=>simp[intOf];omega
     ·by_cases k2:cl=vD
      ·have HG:Hid (kR l.length (ts.drop (i+1)) st2 (op-1)=tM l):=by have:=HE.out;rw[if_neg k1,if_pos k2]at this;exact this
       have b1:(cl==[40])=false:=by rw[k2];rfl
       have b2:(cl==[41])=true:=by rw[k2];rfl
       clear k1 k2 HE
       go_wp2_with (go_at_call 128;refine(wP st cl op _ HF1.out).mono ?_;rintro e w' ⟨rfl,hw⟩;obtain rfl:=hw.symm;rw[HN.out])
       go_round
       case rel=>exact⟨i+1,st2,op-1,by omega,rfl,rfl,by go_num,by omega,by omega,HG.out⟩
       case measure=>simp[intOf];omega
      ·have HG:Hid (kR l.length (ts.drop (i+1)) st2 op=tM l):=by have:=HE.out;rw[if_neg k1,if_neg k2]at this;exact this
       have b1:(cl==[40])=false:=by simpa[yU] using k1
       have b2:(cl==[41])=false:=by simpa[vD] using k2
       clear k1 k2 HE
       go_wp2_with (go_at_call 128;refine(wP st cl op _ HF1.out).mono ?_;rintro e w' ⟨rfl,hw⟩;obtain rfl:=hw.symm;rw[HN.out])
       go_round
       case rel=>exact⟨i+1,st2,op,by omega,rfl,rfl,by go_num,by omega,by omega,HG.out⟩
       case measure=>simp[intOf];omega
   ·have hd:ts.drop i=[]:=List.drop_eq_nil_of_le (by omega)
    by_cases zGE:st=kX
    ·have HE:Hid (tM l = -1):=by have:=HI.out;rw[hd,kR,if_pos zGE]at this;exact this.symm
     have b1:(!st==[108,105,110,101])=false:=by rw[zGE];rfl
     clear hd zGE HI;go_wp2_with fail
     go_ret;exact⟨yA HE.out.symm,zGJ⟩
    ·have HE:Hid (tM l=l.length):=by have:=HI.out;rw[hd,kR,if_neg zGE]at this;exact this.symm
     have b1:(!st==[108,105,110,101])=true:=by simpa[kX] using zGE
     clear hd zGE HI;go_wp2_with fail
     go_ret;exact⟨yA HE.out.symm,zGJ⟩
abbrev zI:=List (Nat × Bs)
def opn(cl:Bs)(op:Int):Int:=if cl=yU then op+1 else if cl=vD then op-1 else op
def uX(word:Bs):zI->Nat->Int->Int->Int
 | [],_,_,at'=>at'
 | t::r,i,op,at'=>uX word r (i+1) (opn (zX t.2) op) (if opn (zX t.2) op=0/\zX t.2=word then (i:Int) else at')
def yM(ts:zI)(word:Bs):Int:=uX word ts 0 0 (-1)
theorem Ba(word:Bs)(ts:zI):∀(i:Nat) (op at':Int),-1<=at'->at'<i -> -1<=uX word ts i op at'/\uX word ts i op at'<i+ts.length:=by
 induction ts with
 | nil=>intro i op a h1 h2;simp[uX];omega
 | cons t r ih =>
   intro i op a h1 h2;rw[uX];have:=ih (i+1) (opn (zX t.2) op) (if opn (zX t.2) op=0/\zX t.2=word then (i:Int) else a) (by split <;> omega) (by split <;> omega);simp only[List.length_cons];omega
theorem vC(ts:zI)(word:Bs) : -1<=yM ts word/\yM ts word<ts.length:=by
 have:=Ba word ts 0 0 (-1) (by omega) (by omega);unfold yM;omega
def Vu:Bs->Nat->zI->Bs
 | s,_,[]=>s
 | s,i,t::r=>Vu ((if 0<i then s++[32] else s)++t.2) (i+1) r
def dA(ts:zI):Bs:=Vu [] 0 ts
def eV:zI->Nat
 | []=>0
 | t::r=>t.2.length+1+eV r
theorem Uz(a b:zI):eV (a++b)=eV a+eV b:=by
 induction a with
 | nil=>simp[eV]
 | cons t r ih=>simp[eV,ih];omega
theorem pX(ts:zI)(k:Nat):eV (ts.take k)+eV (ts.drop k)=eV ts:=by
 rw[<-Uz,List.take_append_drop]
theorem Kx(ts:zI)(k:Nat):eV (ts.drop k)<=eV ts:=by have:=pX ts k;omega
theorem Kw(ts:zI)(k:Nat):eV (ts.take k)<=eV ts:=by have:=pX ts k;omega
theorem XH(ts:zI):∀(s:Bs) (i:Nat),(Vu s i ts).length<=s.length+eV ts:=by
 induction ts with
 | nil=>intro s i;simp[Vu,eV]
 | cons t r ih =>
   intro s i;rw[Vu];have h1:=ih ((if 0<i then s++[32] else s)++t.2) (i+1)
   have h2:((if 0<i then s++[32] else s)++t.2).length<=s.length+1+t.2.length:=by
    split <;> simp <;> omega
   simp only[eV];omega
def xF:Bs:=[110,111,116]
def xY:Bs:=[119,104,101,110]
def zW:Bs:=[114,117,108,101]
def Uo(s:Bs):Bs:=[40,32]++s++[32,41]
def pO:Nat->zI->Bs × Int
 | 0,_=>([],0)
 | n+1,ts =>
   if 0<=yM ts vK then ((pO n (ts.take (yM ts vK).toNat)).1++[32,111,114,32]++(pO n (ts.drop ((yM ts vK).toNat+1))).1,2)
   else if 0<=yM ts yL then
    let a:=pO n (ts.take (yM ts yL).toNat)
    let b:=pO n (ts.drop ((yM ts yL).toNat+1))
    ((if a.2=2 then Uo a.1 else a.1)++[32,97,110,100,32]++(if b.2=2 then Uo b.1 else b.1),1)
   else if zX (ts.getD 0 (0,[])).2=xF then
    let a:=pO n (ts.drop 1)
    ([110,111,116,32]++(if 0<a.2 then Uo a.1 else a.1),0)
   else if zX (ts.getD 0 (0,[])).2=yU then pO n ((ts.drop 1).take (ts.length-2))
   else (dA ts,0)
def mN:zI->Nat->Option Nat
 | [],_=>none
 | t::r,i=>if zX t.2=xY then some i else mN r (i+1)
def pW(ts:zI):Int:=match mN ts 0 with|some i=>(i:Int)|none=>(ts.length:Int)-1
theorem yS(ts:zI)(word:Bs)(g o cap:Nat)(w:World)(hs:qT w g o ts)(hn:ts.length<=10000)(_hc:ts.length<=cap) :
 Calls Tryz.prog 135 #[.slice (some ⟨g,o,none⟩) ts.length cap,.string ⟨word.toArray⟩] w fun e w'=>e=.returned (.int .i64 (yM ts word))/\w'=w:=by
 have HS:Hid (qT w g o ts):=hs;clear hs
 go_enter Tryz.func135,Tryz.ntmps135
 go_wp2
 go_loop [5,6,7] (fun ov av iv=>∃(i:Nat) (op at':Int),i<=ts.length/\ov=.int .i64 op/\av=.int .i64 at'/\iv=.int .i64 i /\ -(i:Int)<=op/\op<=i/\Hid (uX word (ts.drop i) i op at'=yM ts word)) (fun _ _ iv=>ts.length-(intOf iv).toNat)
 case atStart=>exact⟨0,0,-1,Nat.zero_le _,rfl,rfl,rfl,by omega,by omega,rfl⟩
 case round =>
  obtain⟨i,op,at',hi,rfl,rfl,rfl,ho1,ho2,HI⟩:=hrel;by_cases zFZ:i<ts.length
  ·obtain⟨_,_,hc2⟩:=HS.out i zFZ
   have HD:Hid (ts.drop i=ts.getD i (0,[])::ts.drop (i+1)):=zO ts i zFZ;obtain⟨cl,zGM⟩:∃cl,zX (ts.getD i (0,[])).2=cl:=⟨_,rfl⟩;rw[zGM]at hc2
   have HI2:Hid (uX word (ts.drop (i+1)) (i+1) (opn cl op) (if opn cl op=0/\cl=word then (i:Int) else at')=yM ts word):=by
    have:=HI.out;rw[HD.out,uX,zGM]at this;exact this
   clear HI HD zGM;by_cases k1:cl=yU
   ·have k2:True:=trivial
    have zGS:opn cl op=op+1:=by simp[opn,k1]
    have b1:(cl==[40])=true:=by rw[k1];rfl
    have b2:(cl==[41])=false:=by rw[k1];rfl
    by_cases hz:op+1=0
    ·have c0:(op+1==0)=true:=by simpa using hz
     by_cases hw:cl=word
     ·have c1:(cl==word)=true:=by simpa using hw
      have HE:Hid (uX word (ts.drop (i+1)) (i+1) (op+1) (i:Int)=yM ts word):=by have:=HI2.out;rw[zGS,if_pos ⟨hz,hw⟩]at this;exact this
      clear HI2 zGS hz hw k1 k2
      go_wp2
      all_goals
       go_round
       case rel=>exact⟨i+1,op+1,i,by omega,by first|rfl|go_num,rfl,by go_num,by omega,by omega,HE.out⟩
       case measure=>simp[intOf];omega
     ·have c1:(cl==word)=false:=by simpa using hw
      have HE:Hid (uX word (ts.drop (i+1)) (i+1) (op+1) at'=yM ts word):=by have:=HI2.out;rw[zGS,if_neg (fun h=>hw h.2)]at this;exact this
      clear HI2 zGS hz hw k1 k2
      go_wp2
      all_goals
       go_round
       case rel=>exact⟨i+1,op+1,at',by omega,by first|rfl|go_num,rfl,by go_num,by omega,by omega,HE.out⟩
       case measure=>simp[intOf];omega
    ·have c0:(op+1==0)=false:=by simpa using hz
     have HE:Hid (uX word (ts.drop (i+1)) (i+1) (op+1) at'=yM ts word):=by have:=HI2.out;rw[zGS,if_neg (fun h=>hz h.1)]at this;exact this
     clear HI2 zGS hz k1 k2
     go_wp2
     all_goals
      go_round
      case rel=>exact⟨i+1,op+1,at',by omega,by first|rfl|go_num,rfl,by go_num,by omega,by omega,HE.out⟩
      case measure=>simp[intOf];omega
   by_cases k2:cl=vD
   ·have zGS:opn cl op=op-1:=by simp[opn,k2,yU,vD]
    have b1:(cl==[40])=false:=by rw[k2];rfl
    have b2:(cl==[41])=true:=by rw[k2];rfl
    by_cases hz:op-1=0
    ·have c0:(op-1==0)=true:=by simpa using hz
     by_cases hw:cl=word
     ·have c1:(cl==word)=true:=by simpa using hw
      have HE:Hid (uX word (ts.drop (i+1)) (i+1) (op-1) (i:Int)=yM ts word):=by have:=HI2.out;rw[zGS,if_pos ⟨hz,hw⟩]at this;exact this
      clear HI2 zGS hz hw k1 k2
      go_wp2
      all_goals
       go_round
       case rel=>exact⟨i+1,op-1,i,by omega,by first|rfl|go_num,rfl,by go_num,by omega,by omega,HE.out⟩
       case measure=>simp[intOf];omega
     ·have c1:(cl==word)=false:=by simpa using hw
      have HE:Hid (uX word (ts.drop (i+1)) (i+1) (op-1) at'=yM ts word):=by have:=HI2.out;rw[zGS,if_neg (fun h=>hw h.2)]at this;exact this
      clear HI2 zGS hz hw k1 k2
      go_wp2
      all_goals
       go_round
       case rel=>exact⟨i+1,op-1,at',by omega,by first|rfl|go_num,rfl,by go_num,by omega,by omega,HE.out⟩
       case measure=>simp[intOf];omega
    ·have c0:(op-1==0)=false:=by simpa using hz
     have HE:Hid (uX word (ts.drop (i+1)) (i+1) (op-1) at'=yM ts word):=by have:=HI2.out;rw[zGS,if_neg (fun h=>hz h.1)]at this;exact this
     clear HI2 zGS hz k1 k2
     go_wp2
     all_goals
      go_round
      case rel=>exact⟨i+1,op-1,at',by omega,by first|rfl|go_num,rfl,by go_num,by omega,by omega,HE.out⟩
      case measure=>simp[intOf];omega
   have zGS:opn cl op=op:=by simp[opn,k1,k2]
   have b1:(cl==[40])=false:=by simpa[yU] using k1
   have b2:(cl==[41])=false:=by simpa[vD] using k2
   by_cases hz:op=0
   ·have c0:(op==0)=true:=by simpa using hz
    by_cases hw:cl=word
    ·have c1:(cl==word)=true:=by simpa using hw
     have HE:Hid (uX word (ts.drop (i+1)) (i+1) (op) (i:Int)=yM ts word):=by have:=HI2.out;rw[zGS,if_pos ⟨hz,hw⟩]at this;exact this
     clear HI2 zGS hz hw k1 k2
     go_wp2
     all_goals
      go_round
      case rel=>exact⟨i+1,op,i,by omega,by first|rfl|go_num,rfl,by go_num,by omega,by omega,HE.out⟩
      case measure=>simp[intOf];omega
    ·have c1:(cl==word)=false:=by simpa using hw
     have HE:Hid (uX word (ts.drop (i+1)) (i+1) (op) at'=yM ts word):=by have:=HI2.out;rw[zGS,if_neg (fun h=>hw h.2)]at this;exact this
     clear HI2 zGS hz hw k1 k2
     go_wp2
     all_goals
      go_round
      case rel=>exact⟨i+1,op,at',by omega,by first|rfl|go_num,rfl,by go_num,by omega,by omega,HE.out⟩
      case measure=>simp[intOf];omega
   ·have c0:(op==0)=false:=by simpa using hz
    have HE:Hid (uX word (ts.drop (i+1)) (i+1) (op) at'=yM ts word):=by have:=HI2.out;rw[zGS,if_neg (fun h=>hz h.1)]at this;exact this
    clear HI2 zGS hz k1 k2
    go_wp2
    all_goals
     go_round
     case rel=>exact⟨i+1,op,at',by omega,by first|rfl|go_num,rfl,by go_num,by omega,by omega,HE.out⟩
     case measure=>simp[intOf];omega
  ·have hd:ts.drop i=[]:=List.drop_eq_nil_of_le (by omega)
   have HE:Hid (yM ts word=at'):=by have:=HI.out;rw[hd,uX]at this;exact this.symm
   clear hd HI
   go_wp2
   go_ret;exact⟨yA HE.out.symm,rfl⟩
theorem iT(ts:zI)(g o cap:Nat)(w:World)(hs:qT w g o ts)(hn:ts.length<=10000)(_hc:ts.length<=cap) :
 Calls Tryz.prog 78 #[.slice (some ⟨g,o,none⟩) ts.length cap] w fun e w'=>e=.returned (.int .i64 (pW ts))/\w'=w:=by
 have HS:Hid (qT w g o ts):=hs;clear hs
 go_enter Tryz.func78,Tryz.ntmps78
 go_wp2
 go_loop [3] (fun iv=>∃i:Nat,i<=ts.length/\iv=.int .i64 i/\Hid (mN (ts.drop i) i=mN ts 0)) (fun iv=>ts.length-(intOf iv).toNat)
 case atStart=>exact⟨0,Nat.zero_le _,rfl,rfl⟩
 case round =>
  obtain⟨i,hi,rfl,HI⟩:=hrel;by_cases zFZ:i<ts.length
  ·obtain⟨_,_,hc2⟩:=HS.out i zFZ
   have HD:Hid (ts.drop i=ts.getD i (0,[])::ts.drop (i+1)):=zO ts i zFZ;obtain⟨cl,zGM⟩:∃cl,zX (ts.getD i (0,[])).2=cl:=⟨_,rfl⟩;rw[zGM]at hc2;have HI2:Hid ((if cl=xY then some i else mN (ts.drop (i+1)) (i+1))=mN ts 0):=by have:=HI.out;rw[HD.out,mN,zGM]at this;exact this
   clear HI HD zGM;by_cases k1:cl=xY
   ·have HE:Hid (pW ts=i):=by have:=HI2.out;rw[if_pos k1]at this;unfold Hid pW;rw[<-this]
    have b1:(cl==[119,104,101,110])=true:=by rw[k1];rfl
    clear HI2 k1
    go_wp2
    go_ret;exact⟨yA HE.out.symm,rfl⟩
   ·have HE:Hid (mN (ts.drop (i+1)) (i+1)=mN ts 0):=by have:=HI2.out;rw[if_neg k1]at this;exact this
    have b1:(cl==[119,104,101,110])=false:=by simpa[xY] using k1
    clear HI2 k1
    go_wp2
    go_round
    case rel=>exact⟨i+1,by omega,by go_num,HE.out⟩
    case measure=>simp[intOf];omega
  ·have hd:ts.drop i=[]:=List.drop_eq_nil_of_le (by omega)
   have HE:Hid (pW ts=(ts.length:Int)-1):=by have:=HI.out;rw[hd,mN]at this;unfold Hid pW;rw[<-this]
   clear hd HI
   go_wp2
   go_ret;exact⟨yA HE.out.symm,rfl⟩
def qD:Nat->zI->Bool
 | 0,_=>false
 | n+1,ts =>
   if 0<=yM ts vK then qD n (ts.take (yM ts vK).toNat)&&qD n (ts.drop ((yM ts vK).toNat+1))
   else if 0<=yM ts yL then qD n (ts.take (yM ts yL).toNat)&&qD n (ts.drop ((yM ts yL).toNat+1))
   else if zX (ts.getD 0 (0,[])).2=xF then decide (0<ts.length)&&qD n (ts.drop 1)
   else if zX (ts.getD 0 (0,[])).2=yU then decide (2<ts.length)&&qD n ((ts.drop 1).take (ts.length-2))
   else decide (0<ts.length)
theorem yk(word:Bs):yM [] word = -1:=rfl
theorem nY{n:Nat}{ts:zI}(h:qD n ts=true):0<ts.length:=by
 cases n with
 | zero=>simp[qD]at h
 | succ n =>
   cases ts with
   | nil=>simp[qD,yk]at h
   | cons t r=>simp
theorem Zs(ts:zI)(k:Nat)(h:k<ts.length):eV (ts.take k)+1+eV (ts.drop (k+1))<=eV ts:=by
 have h1:=pX ts k;rw[zO ts k h,eV]at h1;omega
theorem GT(n:Nat):∀ts:zI,(pO n ts).1.length<=16*eV ts:=by
 induction n with
 | zero=>intro ts;simp[pO]
 | succ n ih =>
   intro ts;have bo:=vC ts vK;have ba:=vC ts yL;rw[pO];split
   ·have h1:=ih (ts.take (yM ts vK).toNat);have h2:=ih (ts.drop ((yM ts vK).toNat+1))
    have h3:=Zs ts (yM ts vK).toNat (by omega);simp only[List.length_append,List.length_cons,List.length_nil];omega
   ·split
    ·have h1:=ih (ts.take (yM ts yL).toNat);have h2:=ih (ts.drop ((yM ts yL).toNat+1))
     have h3:=Zs ts (yM ts yL).toNat (by omega)
     have h4:∀(c:Prop) [Decidable c] (a:Bs),(if c then Uo a else a).length<=a.length+4:=by
      intro c _ a;split <;> simp[Uo]
     have h5:=h4 ((pO n (ts.take (yM ts yL).toNat)).2=2) (pO n (ts.take (yM ts yL).toNat)).1;have h6:=h4 ((pO n (ts.drop ((yM ts yL).toNat+1))).2=2) (pO n (ts.drop ((yM ts yL).toNat+1))).1;simp only[List.length_append,List.length_cons,List.length_nil];omega
    ·split
     ·rename_i hn
      have h1:=ih (ts.drop 1)
      have h4:∀(c:Prop) [Decidable c] (a:Bs),(if c then Uo a else a).length<=a.length+4:=by
       intro c _ a;split <;> simp[Uo]
      have h5:=h4 (0<(pO n (ts.drop 1)).2) (pO n (ts.drop 1)).1
      have h0:0<ts.length:=by
       cases ts with
       | nil=>revert hn;decide
       | cons t r=>simp
      have h3:=Zs ts 0 h0;simp only[List.length_append,List.length_cons,List.length_nil,Nat.zero_add]at h3 ⊢;omega
     ·split
      ·have h1:=ih ((ts.drop 1).take (ts.length-2))
       have h2:=Kw (ts.drop 1) (ts.length-2);have h3:=Kx ts 1;omega
      ·have:=XH ts [] 0;simp only[dA];simp at this;omega
theorem sP{p:Prop}(h:p):Hid p:=h
theorem qT.drop{w:World}{g o:Nat}{ts:zI}(h:qT w g o ts)(k:Nat):qT w g (o+k*3) (ts.drop k):=by
 intro i hi;have hi':k+i<ts.length:=by rw[List.length_drop]at hi;omega
 obtain⟨a,b,c⟩:=h (k+i) hi';have e:(ts.drop k).getD i (0,[])=ts.getD (k+i) (0,[]):=by simp[List.getD]
 rw[e,show o+k*3+i*3=o+(k+i)*3 by omega];exact⟨a,b,c⟩
theorem qT.take{w:World}{g o:Nat}{ts:zI}(h:qT w g o ts)(k:Nat):qT w g o (ts.take k):=by
 intro i hi;rw[List.length_take]at hi;obtain⟨a,b,c⟩:=h i (by omega);have e:(ts.take k).getD i (0,[])=ts.getD i (0,[]):=by simp only[List.getD,List.getElem?_take];rw[if_pos (by omega)]
 rw[e];exact⟨a,b,c⟩
end Go.Proofs.YtnbpdffdnphbeaaGreatDoor
