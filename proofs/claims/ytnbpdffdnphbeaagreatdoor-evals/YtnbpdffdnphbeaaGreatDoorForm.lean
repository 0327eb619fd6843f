import Derived.Test.YtnbpdffdnphbeaaGreatDoorTokens
set_option maxHeartbeats 1000000
namespace Go.Proofs.YtnbpdffdnphbeaaGreatDoor
open Go.RowKit
def qT(w:World)(g o:Nat)(ts:List (Nat × Bs)):Prop:=∀i,i<ts.length ->
 w.cell? ⟨g,o+i*3,none⟩=some (.string ⟨(ts.getD i (0,[])).2.toArray⟩)/\w.cell? ⟨g,o+i*3+1,none⟩=some (.int .i64 (ts.getD i (0,[])).1)/\w.cell? ⟨g,o+i*3+2,none⟩=some (.string ⟨(zX (ts.getD i (0,[])).2).toArray⟩)
theorem FG(ts:List (Nat × Bs)):∀i,i<ts.length ->
 (rF ts)[i*3]? = some (.string ⟨(ts.getD i (0,[])).2.toArray⟩)/\(rF ts)[i*3+1]? = some (.int .i64 (ts.getD i (0,[])).1)/\(rF ts)[i*3+2]? = some (.string ⟨(zX (ts.getD i (0,[])).2).toArray⟩):=by
 induction ts with
 | nil=>intro i h;simp at h
 | cons t r ih =>
   intro i h;have e:rF (t::r)=UI t++rF r:=by simp[rF]
   cases i with
   | zero=>rw[e];simp[UI]
   | succ i =>
     have zG4:(UI t).length=3:=rfl;have hi:=ih i (by simpa using h);rw[e];refine⟨?_,?_,?_⟩
     ·rw[List.getElem?_append_right (by rw[zG4];omega),zG4,show (i+1)*3-3=i*3 by omega];simpa using hi.1
     ·rw[List.getElem?_append_right (by rw[zG4];omega),zG4,show (i+1)*3+1-3=i*3+1 by omega];simpa using hi.2.1
     ·rw[List.getElem?_append_right (by rw[zG4];omega),zG4,show (i+1)*3+2-3=i*3+2 by omega];simpa using hi.2.2
theorem aY{w:World}{g:Nat}{yO:Array Value}{e:TypeId}{fz:Nat × Nat}{k n:Nat}{xs:List Value}{u:Value}
 (hb:w.heap[g]? = some (.cells yO e fz)) (ht:yO.toList.take n=xs) (hx:xs[k]? = some u):w.cell? ⟨g,k,none⟩=some u:=by
 have h1:yO.toList[k]? = some u:=by
  rw[<-ht,List.getElem?_take]at hx;split at hx
  ·exact hx
  ·cases hx
 simp[World.cell?,hb];simpa using h1
theorem Xf{w:World}{base:Nat}{v:Value}{ts:List (Nat × Bs)}(h:w.ownsRow base 193 3 v ts.length (rF ts)) :
 (v=.slice none 0 0/\ts=[])\/∃g cap,v=.slice (some ⟨g,0,none⟩) ts.length cap/\base<=g/\g<w.heap.size/\ts.length<=cap/\cap<=maxLen/\qT w g 0 ts:=by
 rcases h.2 with ⟨h1,h2⟩|⟨g,cap,yO,h1,h2,h3,h4,h5,h6,h7⟩
 ·exact .inl ⟨h1,List.eq_nil_of_length_eq_zero h2⟩
 ·refine .inr ⟨g,cap,h1,h2,?_,h4,h5,?_⟩
  ·rcases Nat.lt_or_ge g w.heap.size with h|h
   ·exact h
   ·rw[Array.getElem?_eq_none h]at h3;cases h3
  ·intro i hi
   obtain⟨a,b,c⟩:=FG ts i hi;refine⟨?_,?_,?_⟩
   ·rw[Nat.zero_add];exact aY h3 h7 a
   ·rw[Nat.zero_add];exact aY h3 h7 b
   ·rw[Nat.zero_add];exact aY h3 h7 c
theorem kT.below{w w':World}(h:kT w)(hb:Below w.heap.size w w'):kT w':=by
 have h0:0<w.heap.size:=by
  have:=h 0 (by omega);rcases Nat.eq_zero_or_pos w.heap.size with h1|h1
  ·rw[World.cell?,Array.getElem?_eq_none (by simpa using h1)]at this;cases this
  ·exact h1
 intro j hj;rw[hb.cell (p:=⟨0,j,none⟩) h0];exact h j hj
theorem j6(l:Bs)(w:World)(hl:l.length<=4000)(hf:kT w) :
 Calls Tryz.prog 74 #[.string ⟨l.toArray⟩] w fun e w'=>e=.returned (.int .i64 (tL l))/\Below w.heap.size w w':=by
 have HW:Hid (kT w):=hf;clear hf
 go_enter Tryz.func74,Tryz.ntmps74
 go_wp2_with (go_at_call 109;refine(iP l _ hl).mono ?_;rintro e w1 ⟨v,rfl,zG0,zGI⟩)
 have HF1:Hid (kT w1):=HW.out.below zGI;have HR:Hid (tL l=kR l.length (zP l 0) kX 0):=rfl;have zGM:=uU l 0;generalize zP l 0=ts at *;rcases Xf zG0 with ⟨rfl,rfl⟩|⟨g,cap,rfl,_,_,hcap,zGN,zG3⟩
 ·clear zG0 zGM
  go_loop [4,5,6] (fun sv ov iv=>sv=.string ⟨kX.toArray⟩/\ov=.int .i64 0/\iv=.int .i64 0) (fun _ _ _=>0)
  case atStart=>exact⟨rfl,rfl,rfl⟩
  case round =>
   obtain⟨rfl,rfl,rfl⟩:=hrel;have hs:(!kX==[108,105,110,101])=false:=by decide
   go_wp2_with fail
   go_ret;exact⟨yA (by rw[HR.out];rfl),zGI⟩
 ·have HS:Hid (qT w1 g 0 ts):=zG3
  clear zG0 zG3
  go_loop [4,5,6] (fun sv ov iv=>∃(i:Nat) (st:Bs) (op:Int),i<=ts.length/\sv=.string ⟨st.toArray⟩/\ov=.int .i64 op/\iv=.int .i64 i /\ -(i:Int)<=op/\op<=i/\Hid (kR l.length (ts.drop i) st op=tL l)) (fun _ _ iv=>ts.length-(intOf iv).toNat)
  case atStart=>exact⟨0,kX,0,Nat.zero_le _,rfl,rfl,rfl,by omega,by omega,HR.out.symm⟩
  case round =>
   obtain⟨i,st,op,hi,rfl,rfl,rfl,ho1,ho2,HI⟩:=hrel;by_cases zFY:i<ts.length
   ·obtain⟨_,hc1,hc2⟩:=HS.out i zFY
    have HD:Hid (ts.drop i=ts.getD i (0,[])::ts.drop (i+1)):=zO ts i zFY;obtain⟨tk,htk⟩:∃tk,ts.getD i (0,[])=tk:=⟨_,rfl⟩;rw[htk]at hc1 hc2 HD;obtain⟨cl,zGL⟩:∃cl,zX tk.2=cl:=⟨_,rfl⟩;rw[zGL]at hc2;obtain⟨st2,hst2⟩:∃st2,zT st cl op=st2:=⟨_,rfl⟩;have HN:Hid (zT st cl op=st2):=hst2
    have HI2:Hid ((if st2=[] then (tk.1:Int) else kR l.length (ts.drop (i+1)) st2 (if cl=yW then op+1 else if cl=vD then op-1 else op))=tL l):=by
     have:=HI.out;rw[HD.out,kR,zGL,hst2]at this;exact this
    clear htk zGL hst2 HI HD;simp only[Nat.zero_add]at hc1 hc2;by_cases zGD:st2=[]
    ·have he:List.isEmpty st2=true:=by simp[zGD]
     have HE:Hid ((tk.1:Int)=tL l):=by have:=HI2.out;rw[if_pos zGD]at this;exact this
     clear zGD HI2
     go_wp2_with (go_at_call 128;refine(wT st cl op _ HF1.out).mono ?_;rintro e w' ⟨rfl,hw⟩;obtain rfl:=hw.symm;rw[HN.out])
     go_ret;exact⟨yA HE.out,zGI⟩
    ·have he:List.isEmpty st2=false:=by simp[zGD]
     have HE:Hid (kR l.length (ts.drop (i+1)) st2 (if cl=yW then op+1 else if cl=vD then op-1 else op)=tL l):=by have:=HI2.out;rw[if_neg zGD]at this;exact this
     clear zGD HI2;by_cases k1:cl=yW
     ·have HG:Hid (kR l.length (ts.drop (i+1)) st2 (op+1)=tL l):=by have:=HE.out;rw[if_pos k1]at this;exact this
      have b1:(cl==[40])=true:=by rw[k1];rfl
      have b2:(cl==[41])=false:=by rw[k1];rfl
      clear k1 HE
      go_wp2_with (go_at_call 128;refine(wT st cl op _ HF1.out).mono ?_;rintro e w' ⟨rfl,hw⟩;obtain rfl:=hw.symm;rw[HN.out])
      go_round
      case rel=>exact⟨i+1,st2,op+1,by omega,rfl,rfl,by go_num,by omega,by omega,HG.out⟩
      case measure=>simp[intOf];omega
     ·by_cases k2:cl=vD
      ·have HG:Hid (kR l.length (ts.drop (i+1)) st2 (op-1)=tL l):=by have:=HE.out;rw[if_neg k1,if_pos k2]at this;exact this
       have b1:(cl==[40])=false:=by rw[k2];rfl
       have b2:(cl==[41])=true:=by rw[k2];rfl
       clear k1 k2 HE
       go_wp2_with (go_at_call 128;refine(wT st cl op _ HF1.out).mono ?_;rintro e w' ⟨rfl,hw⟩;obtain rfl:=hw.symm;rw[HN.out])
       go_round
       case rel=>exact⟨i+1,st2,op-1,by omega,rfl,rfl,by go_num,by omega,by omega,HG.out⟩
       case measure=>simp[intOf];omega
      ·have HG:Hid (kR l.length (ts.drop (i+1)) st2 op=tL l):=by have:=HE.out;rw[if_neg k1,if_neg k2]at this;exact this
       have b1:(cl==[40])=false:=by simpa[yW] using k1
       have b2:(cl==[41])=false:=by simpa[vD] using k2
       clear k1 k2 HE
       go_wp2_with (go_at_call 128;refine(wT st cl op _ HF1.out).mono ?_;rintro e w' ⟨rfl,hw⟩;obtain rfl:=hw.symm;rw[HN.out])
       go_round
       case rel=>exact⟨i+1,st2,op,by omega,rfl,rfl,by go_num,by omega,by omega,HG.out⟩
       case measure=>simp[intOf];omega
   ·have hd:ts.drop i=[]:=List.drop_eq_nil_of_le (by omega)
    by_cases zGD:st=kX
    ·have HE:Hid (tL l = -1):=by have:=HI.out;rw[hd,kR,if_pos zGD]at this;exact this.symm
     have b1:(!st==[108,105,110,101])=false:=by rw[zGD];rfl
     clear hd zGD HI;go_wp2_with fail
     go_ret;exact⟨yA HE.out.symm,zGI⟩
    ·have HE:Hid (tL l=l.length):=by have:=HI.out;rw[hd,kR,if_neg zGD]at this;exact this.symm
     have b1:(!st==[108,105,110,101])=true:=by simpa[kX] using zGD
     clear hd zGD HI;go_wp2_with fail
     go_ret;exact⟨yA HE.out.symm,zGI⟩
abbrev zJ:=List (Nat × Bs)
def opn(cl:Bs)(op:Int):Int:=if cl=yW then op+1 else if cl=vD then op-1 else op
def uX(word:Bs):zJ->Nat->Int->Int->Int
 | [],_,_,at'=>at'
 | t::r,i,op,at'=>uX word r (i+1) (opn (zX t.2) op) (if opn (zX t.2) op=0/\zX t.2=word then (i:Int) else at')
def yN(ts:zJ)(word:Bs):Int:=uX word ts 0 0 (-1)
theorem UY(word:Bs)(ts:zJ):∀(i:Nat) (op at':Int),-1<=at'->at'<i -> -1<=uX word ts i op at'/\uX word ts i op at'<i+ts.length:=by
 induction ts with
 | nil=>intro i op a h1 h2;simp[uX];omega
 | cons t r ih =>
   intro i op a h1 h2;rw[uX];have:=ih (i+1) (opn (zX t.2) op) (if opn (zX t.2) op=0/\zX t.2=word then (i:Int) else a) (by split <;> omega) (by split <;> omega);simp only[List.length_cons];omega
theorem vC(ts:zJ)(word:Bs) : -1<=yN ts word/\yN ts word<ts.length:=by
 have:=UY word ts 0 0 (-1) (by omega) (by omega);unfold yN;omega
def Vt:Bs->Nat->zJ->Bs
 | s,_,[]=>s
 | s,i,t::r=>Vt ((if 0<i then s++[32] else s)++t.2) (i+1) r
def dA(ts:zJ):Bs:=Vt [] 0 ts
def eX:zJ->Nat
 | []=>0
 | t::r=>t.2.length+1+eX r
theorem Ux(a b:zJ):eX (a++b)=eX a+eX b:=by
 induction a with
 | nil=>simp[eX]
 | cons t r ih=>simp[eX,ih];omega
theorem pX(ts:zJ)(k:Nat):eX (ts.take k)+eX (ts.drop k)=eX ts:=by
 rw[<-Ux,List.take_append_drop]
theorem Kw(ts:zJ)(k:Nat):eX (ts.drop k)<=eX ts:=by have:=pX ts k;omega
theorem Kv(ts:zJ)(k:Nat):eX (ts.take k)<=eX ts:=by have:=pX ts k;omega
theorem XG(ts:zJ):∀(s:Bs) (i:Nat),(Vt s i ts).length<=s.length+eX ts:=by
 induction ts with
 | nil=>intro s i;simp[Vt,eX]
 | cons t r ih =>
   intro s i;rw[Vt];have h1:=ih ((if 0<i then s++[32] else s)++t.2) (i+1)
   have h2:((if 0<i then s++[32] else s)++t.2).length<=s.length+1+t.2.length:=by
    split <;> simp <;> omega
   simp only[eX];omega
def xG:Bs:=[110,111,116]
def xY:Bs:=[119,104,101,110]
def zW:Bs:=[114,117,108,101]
def Un(s:Bs):Bs:=[40,32]++s++[32,41]
def pO:Nat->zJ->Bs × Int
 | 0,_=>([],0)
 | n+1,ts =>
   if 0<=yN ts vK then ((pO n (ts.take (yN ts vK).toNat)).1++[32,111,114,32]++(pO n (ts.drop ((yN ts vK).toNat+1))).1,2)
   else if 0<=yN ts yL then
    let a:=pO n (ts.take (yN ts yL).toNat)
    let b:=pO n (ts.drop ((yN ts yL).toNat+1))
    ((if a.2=2 then Un a.1 else a.1)++[32,97,110,100,32]++(if b.2=2 then Un b.1 else b.1),1)
   else if zX (ts.getD 0 (0,[])).2=xG then
    let a:=pO n (ts.drop 1)
    ([110,111,116,32]++(if 0<a.2 then Un a.1 else a.1),0)
   else if zX (ts.getD 0 (0,[])).2=yW then pO n ((ts.drop 1).take (ts.length-2))
   else (dA ts,0)
def mN:zJ->Nat->Option Nat
 | [],_=>none
 | t::r,i=>if zX t.2=xY then some i else mN r (i+1)
def pW(ts:zJ):Int:=match mN ts 0 with|some i=>(i:Int)|none=>(ts.length:Int)-1
theorem yS(ts:zJ)(word:Bs)(g o cap:Nat)(w:World)(hs:qT w g o ts)(hn:ts.length<=10000)(_hc:ts.length<=cap) :
 Calls Tryz.prog 135 #[.slice (some ⟨g,o,none⟩) ts.length cap,.string ⟨word.toArray⟩] w fun e w'=>e=.returned (.int .i64 (yN ts word))/\w'=w:=by
 have HS:Hid (qT w g o ts):=hs;clear hs
 go_enter Tryz.func135,Tryz.ntmps135
 go_wp2
 go_loop [5,6,7] (fun ov av iv=>∃(i:Nat) (op at':Int),i<=ts.length/\ov=.int .i64 op/\av=.int .i64 at'/\iv=.int .i64 i /\ -(i:Int)<=op/\op<=i/\Hid (uX word (ts.drop i) i op at'=yN ts word)) (fun _ _ iv=>ts.length-(intOf iv).toNat)
 case atStart=>exact⟨0,0,-1,Nat.zero_le _,rfl,rfl,rfl,by omega,by omega,rfl⟩
 case round =>
  obtain⟨i,op,at',hi,rfl,rfl,rfl,ho1,ho2,HI⟩:=hrel;by_cases zFY:i<ts.length
  ·obtain⟨_,_,hc2⟩:=HS.out i zFY
   have HD:Hid (ts.drop i=ts.getD i (0,[])::ts.drop (i+1)):=zO ts i zFY;obtain⟨cl,zGL⟩:∃cl,zX (ts.getD i (0,[])).2=cl:=⟨_,rfl⟩;rw[zGL]at hc2
   have HI2:Hid (uX word (ts.drop (i+1)) (i+1) (opn cl op) (if opn cl op=0/\cl=word then (i:Int) else at')=yN ts word):=by
    have:=HI.out;rw[HD.out,uX,zGL]at this;exact this
   clear HI HD zGL;by_cases k1:cl=yW
   ·have k2:True:=trivial
    have zGR:opn cl op=op+1:=by simp[opn,k1]
    have b1:(cl==[40])=true:=by rw[k1];rfl
    have b2:(cl==[41])=false:=by rw[k1];rfl
    by_cases hz:op+1=0
    ·have c0:(op+1==0)=true:=by simpa using hz
     by_cases hw:cl=word
     ·have c1:(cl==word)=true:=by simpa using hw
      have HE:Hid (uX word (ts.drop (i+1)) (i+1) (op+1) (i:Int)=yN ts word):=by have:=HI2.out;rw[zGR,if_pos ⟨hz,hw⟩]at this;exact this
      clear HI2 zGR hz hw k1 k2
      go_wp2
      all_goals
       go_round
       case rel=>exact⟨i+1,op+1,i,by omega,by first|rfl|go_num,rfl,by go_num,by omega,by omega,HE.out⟩
       case measure=>simp[intOf];omega
     ·have c1:(cl==word)=false:=by simpa using hw
      have HE:Hid (uX word (ts.drop (i+1)) (i+1) (op+1) at'=yN ts word):=by have:=HI2.out;rw[zGR,if_neg (fun h=>hw h.2)]at this;exact this
      clear HI2 zGR hz hw k1 k2
      go_wp2
      all_goals
       go_round
       case rel=>exact⟨i+1,op+1,at',by omega,by first|rfl|go_num,rfl,by go_num,by omega,by omega,HE.out⟩
       case measure=>simp[intOf];omega
    ·have c0:(op+1==0)=false:=by simpa using hz
     have HE:Hid (uX word (ts.drop (i+1)) (i+1) (op+1) at'=yN ts word):=by have:=HI2.out;rw[zGR,if_neg (fun h=>hz h.1)]at this;exact this
     clear HI2 zGR hz k1 k2
     go_wp2
     all_goals
      go_round
      case rel=>exact⟨i+1,op+1,at',by omega,by first|rfl|go_num,rfl,by go_num,by omega,by omega,HE.out⟩
      case measure=>simp[intOf];omega
   by_cases k2:cl=vD
   ·have zGR:opn cl op=op-1:=by simp[opn,k2,yW,vD]
    have b1:(cl==[40])=false:=by rw[k2];rfl
    have b2:(cl==[41])=true:=by rw[k2];rfl
    by_cases hz:op-1=0
    ·have c0:(op-1==0)=true:=by simpa using hz
     by_cases hw:cl=word
     ·have c1:(cl==word)=true:=by simpa using hw
      have HE:Hid (uX word (ts.drop (i+1)) (i+1) (op-1) (i:Int)=yN ts word):=by have:=HI2.out;rw[zGR,if_pos ⟨hz,hw⟩]at this;exact this
      clear HI2 zGR hz hw k1 k2
      go_wp2
      all_goals
       go_round
       case rel=>exact⟨i+1,op-1,i,by omega,by first|rfl|go_num,rfl,by go_num,by omega,by omega,HE.out⟩
       case measure=>simp[intOf];omega
     ·have c1:(cl==word)=false:=by simpa using hw
      have HE:Hid (uX word (ts.drop (i+1)) (i+1) (op-1) at'=yN ts word):=by have:=HI2.out;rw[zGR,if_neg (fun h=>hw h.2)]at this;exact this
      clear HI2 zGR hz hw k1 k2
      go_wp2
      all_goals
       go_round
       case rel=>exact⟨i+1,op-1,at',by omega,by first|rfl|go_num,rfl,by go_num,by omega,by omega,HE.out⟩
       case measure=>simp[intOf];omega
    ·have c0:(op-1==0)=false:=by simpa using hz
     have HE:Hid (uX word (ts.drop (i+1)) (i+1) (op-1) at'=yN ts word):=by have:=HI2.out;rw[zGR,if_neg (fun h=>hz h.1)]at this;exact this
     clear HI2 zGR hz k1 k2
     go_wp2
     all_goals
      go_round
      case rel=>exact⟨i+1,op-1,at',by omega,by first|rfl|go_num,rfl,by go_num,by omega,by omega,HE.out⟩
      case measure=>simp[intOf];omega
   have zGR:opn cl op=op:=by simp[opn,k1,k2]
   have b1:(cl==[40])=false:=by simpa[yW] using k1
   have b2:(cl==[41])=false:=by simpa[vD] using k2
   by_cases hz:op=0
   ·have c0:(op==0)=true:=by simpa using hz
    by_cases hw:cl=word
    ·have c1:(cl==word)=true:=by simpa using hw
     have HE:Hid (uX word (ts.drop (i+1)) (i+1) (op) (i:Int)=yN ts word):=by have:=HI2.out;rw[zGR,if_pos ⟨hz,hw⟩]at this;exact this
     clear HI2 zGR hz hw k1 k2
     go_wp2
     all_goals
      go_round
      case rel=>exact⟨i+1,op,i,by omega,by first|rfl|go_num,rfl,by go_num,by omega,by omega,HE.out⟩
      case measure=>simp[intOf];omega
    ·have c1:(cl==word)=false:=by simpa using hw
     have HE:Hid (uX word (ts.drop (i+1)) (i+1) (op) at'=yN ts word):=by have:=HI2.out;rw[zGR,if_neg (fun h=>hw h.2)]at this;exact this
     clear HI2 zGR hz hw k1 k2
     go_wp2
     all_goals
      go_round
      case rel=>exact⟨i+1,op,at',by omega,by first|rfl|go_num,rfl,by go_num,by omega,by omega,HE.out⟩
      case measure=>simp[intOf];omega
   ·have c0:(op==0)=false:=by simpa using hz
    have HE:Hid (uX word (ts.drop (i+1)) (i+1) (op) at'=yN ts word):=by have:=HI2.out;rw[zGR,if_neg (fun h=>hz h.1)]at this;exact this
    clear HI2 zGR hz k1 k2
    go_wp2
    all_goals
     go_round
     case rel=>exact⟨i+1,op,at',by omega,by first|rfl|go_num,rfl,by go_num,by omega,by omega,HE.out⟩
     case measure=>simp[intOf];omega
  ·have hd:ts.drop i=[]:=List.drop_eq_nil_of_le (by omega)
   have HE:Hid (yN ts word=at'):=by have:=HI.out;rw[hd,uX]at this;exact this.symm
   clear hd HI
   go_wp2
   go_ret;exact⟨yA HE.out.symm,rfl⟩
theorem iV(ts:zJ)(g o cap:Nat)(w:World)(hs:qT w g o ts)(hn:ts.length<=10000)(_hc:ts.length<=cap) :
 Calls Tryz.prog 78 #[.slice (some ⟨g,o,none⟩) ts.length cap] w fun e w'=>e=.returned (.int .i64 (pW ts))/\w'=w:=by
 have HS:Hid (qT w g o ts):=hs;clear hs
 go_enter Tryz.func78,Tryz.ntmps78
 go_wp2
 go_loop [3] (fun iv=>∃i:Nat,i<=ts.length/\iv=.int .i64 i/\Hid (mN (ts.drop i) i=mN ts 0)) (fun iv=>ts.length-(intOf iv).toNat)
 case atStart=>exact⟨0,Nat.zero_le _,rfl,rfl⟩
 case round =>
  obtain⟨i,hi,rfl,HI⟩:=hrel;by_cases zFY:i<ts.length
  ·obtain⟨_,_,hc2⟩:=HS.out i zFY
   have HD:Hid (ts.drop i=ts.getD i (0,[])::ts.drop (i+1)):=zO ts i zFY;obtain⟨cl,zGL⟩:∃cl,zX (ts.getD i (0,[])).2=cl:=⟨_,rfl⟩;rw[zGL]at hc2;have HI2:Hid ((if cl=xY then some i else mN (ts.drop (i+1)) (i+1))=mN ts 0):=by have:=HI.out;rw[HD.out,mN,zGL]at this;exact this
   clear HI HD zGL;by_cases k1:cl=xY
   ·have HE:Hid (pW ts=i):=by have:=HI2.out;rw[if_pos k1]at this;unfold Hid pW;rw[<-this]
    have b1:(cl==[119,104,101,110])=true:=by rw[k1];rfl
    clear HI2 k1
    go_wp2
    go_ret;exact⟨yA HE.out.symm,rfl⟩
   ·have HE:Hid (mN (ts.drop (i+1)) (i+1)=mN ts 0):=by have:=HI2.out;rw[if_neg k1]at this;exact this
    have b1:(cl==[119,104,101,110])=false:=by simpa[xY] using k1
    clear HI2 k1
    go_wp2
    go_round
    case rel=>exact⟨i+1,by omega,by go_num,HE.out⟩
    case measure=>simp[intOf];omega
  ·have hd:ts.drop i=[]:=List.drop_eq_nil_of_le (by omega)
   have HE:Hid (pW ts=(ts.length:Int)-1):=by have:=HI.out;rw[hd,mN]at this;unfold Hid pW;rw[<-this]
   clear hd HI
   go_wp2
   go_ret;exact⟨yA HE.out.symm,rfl⟩
def qD:Nat->zJ->Bool
 | 0,_=>false
 | n+1,ts =>
   if 0<=yN ts vK then qD n (ts.take (yN ts vK).toNat)&&qD n (ts.drop ((yN ts vK).toNat+1))
   else if 0<=yN ts yL then qD n (ts.take (yN ts yL).toNat)&&qD n (ts.drop ((yN ts yL).toNat+1))
   else if zX (ts.getD 0 (0,[])).2=xG then decide (0<ts.length)&&qD n (ts.drop 1)
   else if zX (ts.getD 0 (0,[])).2=yW then decide (2<ts.length)&&qD n ((ts.drop 1).take (ts.length-2))
   else decide (0<ts.length)
theorem yi(word:Bs):yN [] word = -1:=rfl
theorem nZ{n:Nat}{ts:zJ}(h:qD n ts=true):0<ts.length:=by
 cases n with
 | zero=>simp[qD]at h
 | succ n =>
   cases ts with
   | nil=>simp[qD,yi]at h
   | cons t r=>simp
theorem Zt(ts:zJ)(k:Nat)(h:k<ts.length):eX (ts.take k)+1+eX (ts.drop (k+1))<=eX ts:=by
 have h1:=pX ts k;rw[zO ts k h,eX]at h1;omega
theorem GQ(n:Nat):∀ts:zJ,(pO n ts).1.length<=16*eX ts:=by
 induction n with
 | zero=>intro ts;simp[pO]
 | succ n ih =>
   intro ts;have bo:=vC ts vK;have ba:=vC ts yL;rw[pO];split
   ·have h1:=ih (ts.take (yN ts vK).toNat);have h2:=ih (ts.drop ((yN ts vK).toNat+1))
    have h3:=Zt ts (yN ts vK).toNat (by omega);simp only[List.length_append,List.length_cons,List.length_nil];omega
   ·split
    ·have h1:=ih (ts.take (yN ts yL).toNat);have h2:=ih (ts.drop ((yN ts yL).toNat+1))
     have h3:=Zt ts (yN ts yL).toNat (by omega)
     have h4:∀(c:Prop) [Decidable c] (a:Bs),(if c then Un a else a).length<=a.length+4:=by
      intro c _ a;split <;> simp[Un]
     have h5:=h4 ((pO n (ts.take (yN ts yL).toNat)).2=2) (pO n (ts.take (yN ts yL).toNat)).1;have h6:=h4 ((pO n (ts.drop ((yN ts yL).toNat+1))).2=2) (pO n (ts.drop ((yN ts yL).toNat+1))).1;simp only[List.length_append,List.length_cons,List.length_nil];omega
    ·split
     ·rename_i hn
      have h1:=ih (ts.drop 1)
      have h4:∀(c:Prop) [Decidable c] (a:Bs),(if c then Un a else a).length<=a.length+4:=by
       intro c _ a;split <;> simp[Un]
      have h5:=h4 (0<(pO n (ts.drop 1)).2) (pO n (ts.drop 1)).1
      have h0:0<ts.length:=by
       cases ts with
       | nil=>revert hn;decide
       | cons t r=>simp
      have h3:=Zt ts 0 h0;simp only[List.length_append,List.length_cons,List.length_nil,Nat.zero_add]at h3 ⊢;omega
     ·split
      ·have h1:=ih ((ts.drop 1).take (ts.length-2))
       have h2:=Kv (ts.drop 1) (ts.length-2);have h3:=Kw ts 1;omega
      ·have:=XG ts [] 0;simp only[dA];simp at this;omega
theorem sR{p:Prop}(h:p):Hid p:=h
theorem qT.drop{w:World}{g o:Nat}{ts:zJ}(h:qT w g o ts)(k:Nat):qT w g (o+k*3) (ts.drop k):=by
 intro i hi;have hi':k+i<ts.length:=by rw[List.length_drop]at hi;omega
 obtain⟨a,b,c⟩:=h (k+i) hi';have e:(ts.drop k).getD i (0,[])=ts.getD (k+i) (0,[]):=by simp[List.getD]
 rw[e,show o+k*3+i*3=o+(k+i)*3 by omega];exact⟨a,b,c⟩
theorem qT.take{w:World}{g o:Nat}{ts:zJ}(h:qT w g o ts)(k:Nat):qT w g o (ts.take k):=by
 intro i hi;rw[List.length_take]at hi;obtain⟨a,b,c⟩:=h i (by omega);have e:(ts.take k).getD i (0,[])=ts.getD i (0,[]):=by simp only[List.getD,List.getElem?_take];rw[if_pos (by omega)]
 rw[e];exact⟨a,b,c⟩
end Go.Proofs.YtnbpdffdnphbeaaGreatDoor
