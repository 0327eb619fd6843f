import Derived.Test.YtnbpdffdnphbeaaGreatDoorTokens
set_option maxHeartbeats 1000000
namespace Go.Proofs.YtnbpdffdnphbeaaGreatDoor
open Go.RowKit
variable{g:Nat}{w:World}
def kL(w:World)(g o:Nat)(ts:List (Nat × Bs)):Prop:=∀i,i<ts.length ->
 w.cell? ⟨g,o+i*3,none⟩=some (.string ⟨(ts.getD i (0,[])).2.toArray⟩)/\w.cell? ⟨g,o+i*3+1,none⟩=some (.int .i64 (ts.getD i (0,[])).1)/\w.cell? ⟨g,o+i*3+2,none⟩=some (.string ⟨(zS (ts.getD i (0,[])).2).toArray⟩)
theorem GP(ts:List (Nat × Bs)):∀i,i<ts.length ->
 (rA ts)[i*3]? = some (.string ⟨(ts.getD i (0,[])).2.toArray⟩)/\(rA ts)[i*3+1]? = some (.int .i64 (ts.getD i (0,[])).1)/\(rA ts)[i*3+2]? = some (.string ⟨(zS (ts.getD i (0,[])).2).toArray⟩):=by
 induction ts with
 | nil=>intro i h;simp at h
 | cons t r ih =>
   intro i h;have e:rA (t::r)=BF t++rA r:=by simp[rA]
   cases i with
   | zero=>rw[e];simp[BF]
   | succ i =>
     have zIC:(BF t).length=3:=rfl;have hi:=ih i (by simpa using h);rw[e];refine⟨?_,?_,?_⟩
     ·rw[pf (by rw[zIC];omega),zIC,show (i+1)*3-3=i*3 by omega];simpa using hi.1
     ·rw[pf (by rw[zIC];omega),zIC,show (i+1)*3+1-3=i*3+1 by omega];simpa using hi.2.1
     ·rw[pf (by rw[zIC];omega),zIC,show (i+1)*3+2-3=i*3+2 by omega];simpa using hi.2.2
theorem aP{yW:Array Value}{e:TypeId}{fz:Nat × Nat}{k n:Nat}{xs:List Value}{u:Value}
 (hb:w.heap[g]? = some (.cells yW e fz)) (ht:yW.toList.take n=xs) (hx:xs[k]? = some u):w.cell? ⟨g,k,none⟩=some u:=by
 have h1:yW.toList[k]? = some u:=by
  rw[<-ht,bv]at hx;split at hx
  ·exact hx
  ·cases hx
 simp[World.cell?,hb];simpa using h1
theorem V4{base:Nat}{v:Value}{ts:List (Nat × Bs)}(h:w.ownsRow base 193 3 v ts.length (rA ts)) :
 (v=.slice none 0 0/\ts=[])\/∃g cap,v=.slice (some ⟨g,0,none⟩) ts.length cap/\base<=g/\g<w.heap.size/\ts.length<=cap/\cap<=maxLen/\kL w g 0 ts:=by
 rcases h.2 with ⟨h1,h2⟩|⟨g,cap,yW,h1,h2,h3,h4,h5,h6,h7⟩
 ·exact .inl ⟨h1,mu h2⟩
 ·refine .inr ⟨g,cap,h1,h2,?_,h4,h5,?_⟩
  ·rcases po g w.heap.size with h|h
   ·exact h
   ·rw[pj h]at h3;cases h3
  ·intro i hi
   obtain⟨a,b,c⟩:=GP ts i hi;refine⟨?_,?_,?_⟩
   ·rw[lu];exact aP h3 h7 a
   ·rw[lu];exact aP h3 h7 b
   ·rw[lu];exact aP h3 h7 c
theorem jJ.below{w':World}(h:jJ w)(hb:Below w.heap.size w w'):jJ w':=by
 have h0:0<w.heap.size:=by
  have:=h 0 (by omega);rcases Nat.eq_zero_or_pos w.heap.size with h1|h1
  ·rw[World.cell?,pj (by simpa using h1)]at this;cases this
  ·exact h1
 intro j hj;rw[hb.cell (p:=⟨0,j,none⟩) h0];exact h j hj
theorem zBC(l:Bs)(w:World)(hl:l.length<=4000)(hf:jJ w) :
 Calls Tryz.prog 74 #[.string ⟨l.toArray⟩] w fun e w'=>e=.returned (.int .i64 (tS l))/\Below w.heap.size w w':=by
 have HW:Hid (jJ w):=hf;clear hf
 go_enter Tryz.func74,Tryz.ntmps74
 go_wp2_with (go_at_call 109;refine(Qz l _ hl).mono ?_;rintro e w1 ⟨v,rfl,zI8,zIS⟩)
 have HF1:Hid (jJ w1):=HW.out.below zIS;have HR:Hid (tS l=jB l.length (yR l 0) jF 0):=rfl;have zIW:=kY l 0;generalize yR l 0=ts at *;rcases V4 zI8 with ⟨rfl,rfl⟩|⟨g,cap,rfl,_,_,hcap,hmax,zIA⟩
 ·clear zI8 zIW
  go_loop [4,5,6] (fun sv ov iv=>sv=.string ⟨jF.toArray⟩/\ov=.int .i64 0/\iv=.int .i64 0) (fun _ _ _=>0)
  case atStart=>exact⟨rfl,rfl,rfl⟩
  case round =>
   obtain⟨rfl,rfl,rfl⟩:=hrel;have hs:(!jF==[108,105,110,101])=false:=by decide
   go_wp2_with fail
   go_ret;exact⟨zY (by rw[HR.out];rfl),zIS⟩
 ·have HS:Hid (kL w1 g 0 ts):=zIA
  clear zI8 zIA
  go_loop [4,5,6] (fun sv ov iv=>∃(i:Nat) (st:Bs) (op:Int),i<=ts.length/\sv=.string ⟨st.toArray⟩/\ov=.int .i64 op/\iv=.int .i64 i /\ -(i:Int)<=op/\op<=i/\Hid (jB l.length (ts.drop i) st op=tS l)) (fun _ _ iv=>ts.length-(intOf iv).toNat)
  case atStart=>exact⟨0,jF,0,tr _,rfl,rfl,rfl,by omega,by omega,HR.out.symm⟩
  case round =>
   obtain⟨i,st,op,hi,rfl,rfl,rfl,ho1,ho2,HI⟩:=hrel;by_cases zI6:i<ts.length
   ·obtain⟨_,hc1,hc2⟩:=HS.out i zI6
    have HD:Hid (ts.drop i=ts.getD i (0,[])::ts.drop (i+1)):=zJ ts i zI6;obtain⟨tk,htk⟩:∃tk,ts.getD i (0,[])=tk:=⟨_,rfl⟩;rw[htk]at hc1 hc2 HD;obtain⟨cl,hcl⟩:∃cl,zS tk.2=cl:=⟨_,rfl⟩;rw[hcl]at hc2;obtain⟨st2,hst2⟩:∃st2,zO st cl op=st2:=⟨_,rfl⟩;have HN:Hid (zO st cl op=st2):=hst2
    have HI2:Hid ((if st2=[] then (tk.1:Int) else jB l.length (ts.drop (i+1)) st2 (if cl=yQ then op+1 else if cl=xS then op-1 else op))=tS l):=by
     have:=HI.out;rw[HD.out,jB,hcl,hst2]at this;exact this
    clear htk hcl hst2 HI HD;simp only[lu]at hc1 hc2;by_cases zIO:st2=[]
    ·have he:List.isEmpty st2=true:=by simp[zIO]
     have HE:Hid ((tk.1:Int)=tS l):=by have:=HI2.out;rw[tl zIO]at this;exact this
     clear zIO HI2
     go_wp2_with (go_at_call 128;refine(Za st cl op _ HF1.out).mono ?_;rintro e w' ⟨rfl,hw⟩;obtain rfl:=hw.symm;rw[HN.out])
     go_ret;exact⟨zY HE.out,zIS⟩
    ·have he:List.isEmpty st2=false:=by simp[zIO]
     have HE:Hid (jB l.length (ts.drop (i+1)) st2 (if cl=yQ then op+1 else if cl=xS then op-1 else op)=tS l):=by have:=HI2.out;rw[tg zIO]at this;exact this
     clear zIO HI2;by_cases k1:cl=yQ
     ·have HG:Hid (jB l.length (ts.drop (i+1)) st2 (op+1)=tS l):=by have:=HE.out;rw[tl k1]at this;exact this
      have b1:(cl==[40])=true:=by rw[k1];rfl
      have b2:(cl==[41])=false:=by rw[k1];rfl
      clear k1 HE
      go_wp2_with (go_at_call 128;refine(Za st cl op _ HF1.out).mono ?_;rintro e w' ⟨rfl,hw⟩;obtain rfl:=hw.symm;rw[HN.out])
      go_round
      case rel=>exact⟨i+1,st2,op+1,by omega,rfl,rfl,by go_num,by omega,by omega,HG.out⟩
      case measure=>simp[intOf];omega
     ·by_cases k2:cl=xS
      ·have HG:Hid (jB l.length (ts.drop (i+1)) st2 (op-1)=tS l):=by have:=HE.out;rw[tg k1,tl k2]at this;exact this
       have b1:(cl==[40])=false:=by rw[k2];rfl
       have b2:(cl==[41])=true:=by rw[k2];rfl
       clear k1 k2 HE
       go_wp2_with (go_at_call 128;refine(Za st cl op _ HF1.out).mono ?_;rintro e w' ⟨rfl,hw⟩;obtain rfl:=hw.symm;rw[HN.out])
       go_round
       case rel=>exact⟨i+1,st2,op-1,by omega,rfl,rfl,by go_num,by omega,by omega,HG.out⟩
       case measure=>simp[intOf];omega
      ·have HG:Hid (jB l.length (ts.drop (i+1)) st2 op=tS l):=by have:=HE.out;rw[tg k1,tg k2]at this;exact this
       have b1:(cl==[40])=false:=by simpa[yQ] using k1
       have b2:(cl==[41])=false:=by simpa[xS] using k2
       clear k1 k2 HE
       go_wp2_with (go_at_call 128;refine(Za st cl op _ HF1.out).mono ?_;rintro e w' ⟨rfl,hw⟩;obtain rfl:=hw.symm;rw[HN.out])
       go_round
       case rel=>exact⟨i+1,st2,op,by omega,rfl,rfl,by go_num,by omega,by omega,HG.out⟩
       case measure=>simp[intOf];omega
   ·have hd:ts.drop i=[]:=tu (by omega)
    by_cases zIO:st=jF
    ·have HE:Hid (tS l = -1):=by have:=HI.out;rw[hd,jB,tl zIO]at this;exact this.symm
     have b1:(!st==[108,105,110,101])=false:=by rw[zIO];rfl
     clear hd zIO HI;go_wp2_with fail
     go_ret;exact⟨zY HE.out.symm,zIS⟩
    ·have HE:Hid (tS l=l.length):=by have:=HI.out;rw[hd,jB,tg zIO]at this;exact this.symm
     have b1:(!st==[108,105,110,101])=true:=by simpa[jF] using zIO
     clear hd zIO HI;go_wp2_with fail
     go_ret;exact⟨zY HE.out.symm,zIS⟩
abbrev zG:=List (Nat × Bs)
def opn(cl:Bs)(op:Int):Int:=if cl=yQ then op+1 else if cl=xS then op-1 else op
def uZ(word:Bs):zG->Nat->Int->Int->Int
 | [],_,_,at'=>at'
 | t::r,i,op,at'=>uZ word r (i+1) (opn (zS t.2) op) (if opn (zS t.2) op=0/\zS t.2=word then (i:Int) else at')
def yF(ts:zG)(word:Bs):Int:=uZ word ts 0 0 (-1)
theorem Ce(word:Bs)(ts:zG):∀(i:Nat) (op at':Int),-1<=at'->at'<i -> -1<=uZ word ts i op at'/\uZ word ts i op at'<i+ts.length:=by
 induction ts with
 | nil=>intro i op a h1 h2;simp[uZ];omega
 | cons t r ih =>
   intro i op a h1 h2;rw[uZ];have:=ih (i+1) (opn (zS t.2) op) (if opn (zS t.2) op=0/\zS t.2=word then (i:Int) else a) (by split <;> omega) (by split <;> omega);simp only[p7];omega
theorem xR(ts:zG)(word:Bs) : -1<=yF ts word/\yF ts word<ts.length:=by
 have:=Ce word ts 0 0 (-1) (by omega) (by omega);unfold yF;omega
def Uo:Bs->Nat->zG->Bs
 | s,_,[]=>s
 | s,i,t::r=>Uo ((if 0<i then s++[32] else s)++t.2) (i+1) r
def dD(ts:zG):Bs:=Uo [] 0 ts
def eQ:zG->Nat
 | []=>0
 | t::r=>t.2.length+1+eQ r
theorem Bn(a b:zG):eQ (a++b)=eQ a+eQ b:=by
 induction a with
 | nil=>simp[eQ]
 | cons t r ih=>simp[eQ,ih];omega
theorem mF(ts:zG)(k:Nat):eQ (ts.take k)+eQ (ts.drop k)=eQ ts:=by
 rw[<-Bn,List.take_append_drop]
theorem Vm(ts:zG)(k:Nat):eQ (ts.drop k)<=eQ ts:=by have:=mF ts k;omega
theorem Vl(ts:zG)(k:Nat):eQ (ts.take k)<=eQ ts:=by have:=mF ts k;omega
theorem Qc(ts:zG):∀(s:Bs) (i:Nat),(Uo s i ts).length<=s.length+eQ ts:=by
 induction ts with
 | nil=>intro s i;simp[Uo,eQ]
 | cons t r ih =>
   intro s i;rw[Uo];have h1:=ih ((if 0<i then s++[32] else s)++t.2) (i+1)
   have h2:((if 0<i then s++[32] else s)++t.2).length<=s.length+1+t.2.length:=by
    split <;> simp <;> omega
   simp only[eQ];omega
def yY:Bs:=[110,111,116]
def xO:Bs:=[119,104,101,110]
def zR:Bs:=[114,117,108,101]
def Bd(s:Bs):Bs:=[40,32]++s++[32,41]
def pW:Nat->zG->Bs × Int
 | 0,_=>([],0)
 | n+1,ts =>
   if 0<=yF ts xW then ((pW n (ts.take (yF ts xW).toNat)).1++[32,111,114,32]++(pW n (ts.drop ((yF ts xW).toNat+1))).1,2)
   else if 0<=yF ts yE then
    let a:=pW n (ts.take (yF ts yE).toNat)
    let b:=pW n (ts.drop ((yF ts yE).toNat+1))
    ((if a.2=2 then Bd a.1 else a.1)++[32,97,110,100,32]++(if b.2=2 then Bd b.1 else b.1),1)
   else if zS (ts.getD 0 (0,[])).2=yY then
    let a:=pW n (ts.drop 1)
    ([110,111,116,32]++(if 0<a.2 then Bd a.1 else a.1),0)
   else if zS (ts.getD 0 (0,[])).2=yQ then pW n ((ts.drop 1).take (ts.length-2))
   else (dD ts,0)
def mS:zG->Nat->Option Nat
 | [],_=>none
 | t::r,i=>if zS t.2=xO then some i else mS r (i+1)
def mE(ts:zG):Int:=match mS ts 0 with|some i=>(i:Int)|none=>(ts.length:Int)-1
theorem yN(ts:zG)(word:Bs)(g o cap:Nat)(w:World)(hs:kL w g o ts)(hn:ts.length<=10000)(_hc:ts.length<=cap) :
 Calls Tryz.prog 135 #[.slice (some ⟨g,o,none⟩) ts.length cap,.string ⟨word.toArray⟩] w fun e w'=>e=.returned (.int .i64 (yF ts word))/\w'=w:=by
 have HS:Hid (kL w g o ts):=hs;clear hs
 go_enter Tryz.func135,Tryz.ntmps135
 go_wp2
 go_loop [5,6,7] (fun ov av iv=>∃(i:Nat) (op at':Int),i<=ts.length/\ov=.int .i64 op/\av=.int .i64 at'/\iv=.int .i64 i /\ -(i:Int)<=op/\op<=i/\Hid (uZ word (ts.drop i) i op at'=yF ts word)) (fun _ _ iv=>ts.length-(intOf iv).toNat)
 case atStart=>exact⟨0,0,-1,tr _,rfl,rfl,rfl,by omega,by omega,rfl⟩
 case round =>
  obtain⟨i,op,at',hi,rfl,rfl,rfl,ho1,ho2,HI⟩:=hrel;by_cases zI6:i<ts.length
  ·obtain⟨_,_,hc2⟩:=HS.out i zI6
   have HD:Hid (ts.drop i=ts.getD i (0,[])::ts.drop (i+1)):=zJ ts i zI6;obtain⟨cl,hcl⟩:∃cl,zS (ts.getD i (0,[])).2=cl:=⟨_,rfl⟩;rw[hcl]at hc2
   have HI2:Hid (uZ word (ts.drop (i+1)) (i+1) (opn cl op) (if opn cl op=0/\cl=word then (i:Int) else at')=yF ts word):=by
    have:=HI.out;rw[HD.out,uZ,hcl]at this;exact this
   clear HI HD hcl;by_cases k1:cl=yQ
   ·have k2:True:=trivial
    have zJ3:opn cl op=op+1:=by simp[opn,k1]
    have b1:(cl==[40])=true:=by rw[k1];rfl
    have b2:(cl==[41])=false:=by rw[k1];rfl
    by_cases hz:op+1=0
    ·have c0:(op+1==0)=true:=by simpa using hz
     by_cases hw:cl=word
     ·have c1:(cl==word)=true:=by simpa using hw
      have HE:Hid (uZ word (ts.drop (i+1)) (i+1) (op+1) (i:Int)=yF ts word):=by have:=HI2.out;rw[zJ3,tl ⟨hz,hw⟩]at this;exact this
      clear HI2 zJ3 hz hw k1 k2
      go_wp2
      all_goals
       go_round
       case rel=>exact⟨i+1,op+1,i,by omega,by first|rfl|go_num,rfl,by go_num,by omega,by omega,HE.out⟩
       case measure=>simp[intOf];omega
     ·have c1:(cl==word)=false:=by simpa using hw
      have HE:Hid (uZ word (ts.drop (i+1)) (i+1) (op+1) at'=yF ts word):=by have:=HI2.out;rw[zJ3,tg (fun h=>hw h.2)]at this;exact this
      clear HI2 zJ3 hz hw k1 k2
      go_wp2
      all_goals
       go_round
       case rel=>exact⟨i+1,op+1,at',by omega,by first|rfl|go_num,rfl,by go_num,by omega,by omega,HE.out⟩
       case measure=>simp[intOf];omega
    ·have c0:(op+1==0)=false:=by simpa using hz
     have HE:Hid (uZ word (ts.drop (i+1)) (i+1) (op+1) at'=yF ts word):=by have:=HI2.out;rw[zJ3,tg (fun h=>hz h.1)]at this;exact this
     clear HI2 zJ3 hz k1 k2
     go_wp2
     all_goals
      go_round
      case rel=>exact⟨i+1,op+1,at',by omega,by first|rfl|go_num,rfl,by go_num,by omega,by omega,HE.out⟩
      case measure=>simp[intOf];omega
   by_cases k2:cl=xS
   ·have zJ3:opn cl op=op-1:=by simp[opn,k2,yQ,xS]
    have b1:(cl==[40])=false:=by rw[k2];rfl
    have b2:(cl==[41])=true:=by rw[k2];rfl
    by_cases hz:op-1=0
    ·have c0:(op-1==0)=true:=by simpa using hz
     by_cases hw:cl=word
     ·have c1:(cl==word)=true:=by simpa using hw
      have HE:Hid (uZ word (ts.drop (i+1)) (i+1) (op-1) (i:Int)=yF ts word):=by have:=HI2.out;rw[zJ3,tl ⟨hz,hw⟩]at this;exact this
      clear HI2 zJ3 hz hw k1 k2
      go_wp2
      all_goals
       go_round
       case rel=>exact⟨i+1,op-1,i,by omega,by first|rfl|go_num,rfl,by go_num,by omega,by omega,HE.out⟩
       case measure=>simp[intOf];omega
     ·have c1:(cl==word)=false:=by simpa using hw
      have HE:Hid (uZ word (ts.drop (i+1)) (i+1) (op-1) at'=yF ts word):=by have:=HI2.out;rw[zJ3,tg (fun h=>hw h.2)]at this;exact this
      clear HI2 zJ3 hz hw k1 k2
      go_wp2
      all_goals
       go_round
       case rel=>exact⟨i+1,op-1,at',by omega,by first|rfl|go_num,rfl,by go_num,by omega,by omega,HE.out⟩
       case measure=>simp[intOf];omega
    ·have c0:(op-1==0)=false:=by simpa using hz
     have HE:Hid (uZ word (ts.drop (i+1)) (i+1) (op-1) at'=yF ts word):=by have:=HI2.out;rw[zJ3,tg (fun h=>hz h.1)]at this;exact this
     clear HI2 zJ3 hz k1 k2
     go_wp2
     all_goals
      go_round
      case rel=>exact⟨i+1,op-1,at',by omega,by first|rfl|go_num,rfl,by go_num,by omega,by omega,HE.out⟩
      case measure=>simp[intOf];omega
   have zJ3:opn cl op=op:=by simp[opn,k1,k2]
   have b1:(cl==[40])=false:=by simpa[yQ] using k1
   have b2:(cl==[41])=false:=by simpa[xS] using k2
   by_cases hz:op=0
   ·have c0:(op==0)=true:=by simpa using hz
    by_cases hw:cl=word
    ·have c1:(cl==word)=true:=by simpa using hw
     have HE:Hid (uZ word (ts.drop (i+1)) (i+1) (op) (i:Int)=yF ts word):=by have:=HI2.out;rw[zJ3,tl ⟨hz,hw⟩]at this;exact this
     clear HI2 zJ3 hz hw k1 k2
     go_wp2
     all_goals
      go_round
      case rel=>exact⟨i+1,op,i,by omega,by first|rfl|go_num,rfl,by go_num,by omega,by omega,HE.out⟩
      case measure=>simp[intOf];omega
    ·have c1:(cl==word)=false:=by simpa using hw
     have HE:Hid (uZ word (ts.drop (i+1)) (i+1) (op) at'=yF ts word):=by have:=HI2.out;rw[zJ3,tg (fun h=>hw h.2)]at this;exact this
     clear HI2 zJ3 hz hw k1 k2
     go_wp2
     all_goals
      go_round
      case rel=>exact⟨i+1,op,at',by omega,by first|rfl|go_num,rfl,by go_num,by omega,by omega,HE.out⟩
      case measure=>simp[intOf];omega
   ·have c0:(op==0)=false:=by simpa using hz
    have HE:Hid (uZ word (ts.drop (i+1)) (i+1) (op) at'=yF ts word):=by have:=HI2.out;rw[zJ3,tg (fun h=>hz h.1)]at this;exact this
    clear HI2 zJ3 hz k1 k2
    go_wp2
    all_goals
     go_round
     case rel=>exact⟨i+1,op,at',by omega,by first|rfl|go_num,rfl,by go_num,by omega,by omega,HE.out⟩
     case measure=>simp[intOf];omega
  ·have hd:ts.drop i=[]:=tu (by omega)
   have HE:Hid (yF ts word=at'):=by have:=HI.out;rw[hd,uZ]at this;exact this.symm
   clear hd HI
   go_wp2
   go_ret;exact⟨zY HE.out.symm,rfl⟩
theorem wC(ts:zG)(g o cap:Nat)(w:World)(hs:kL w g o ts)(hn:ts.length<=10000)(_hc:ts.length<=cap) :
 Calls Tryz.prog 78 #[.slice (some ⟨g,o,none⟩) ts.length cap] w fun e w'=>e=.returned (.int .i64 (mE ts))/\w'=w:=by
 have HS:Hid (kL w g o ts):=hs;clear hs
 go_enter Tryz.func78,Tryz.ntmps78
 go_wp2
 go_loop [3] (fun iv=>∃i:Nat,i<=ts.length/\iv=.int .i64 i/\Hid (mS (ts.drop i) i=mS ts 0)) (fun iv=>ts.length-(intOf iv).toNat)
 case atStart=>exact⟨0,tr _,rfl,rfl⟩
 case round =>
  obtain⟨i,hi,rfl,HI⟩:=hrel;by_cases zI6:i<ts.length
  ·obtain⟨_,_,hc2⟩:=HS.out i zI6
   have HD:Hid (ts.drop i=ts.getD i (0,[])::ts.drop (i+1)):=zJ ts i zI6;obtain⟨cl,hcl⟩:∃cl,zS (ts.getD i (0,[])).2=cl:=⟨_,rfl⟩;rw[hcl]at hc2;have HI2:Hid ((if cl=xO then some i else mS (ts.drop (i+1)) (i+1))=mS ts 0):=by have:=HI.out;rw[HD.out,mS,hcl]at this;exact this
   clear HI HD hcl;by_cases k1:cl=xO
   ·have HE:Hid (mE ts=i):=by have:=HI2.out;rw[tl k1]at this;unfold Hid mE;rw[<-this]
    have b1:(cl==[119,104,101,110])=true:=by rw[k1];rfl
    clear HI2 k1
    go_wp2
    go_ret;exact⟨zY HE.out.symm,rfl⟩
   ·have HE:Hid (mS (ts.drop (i+1)) (i+1)=mS ts 0):=by have:=HI2.out;rw[tg k1]at this;exact this
    have b1:(cl==[119,104,101,110])=false:=by simpa[xO] using k1
    clear HI2 k1
    go_wp2
    go_round
    case rel=>exact⟨i+1,by omega,by go_num,HE.out⟩
    case measure=>simp[intOf];omega
  ·have hd:ts.drop i=[]:=tu (by omega)
   have HE:Hid (mE ts=(ts.length:Int)-1):=by have:=HI.out;rw[hd,mS]at this;unfold Hid mE;rw[<-this]
   clear hd HI
   go_wp2
   go_ret;exact⟨zY HE.out.symm,rfl⟩
def qN:Nat->zG->Bool
 | 0,_=>false
 | n+1,ts =>
   if 0<=yF ts xW then qN n (ts.take (yF ts xW).toNat)&&qN n (ts.drop ((yF ts xW).toNat+1))
   else if 0<=yF ts yE then qN n (ts.take (yF ts yE).toNat)&&qN n (ts.drop ((yF ts yE).toNat+1))
   else if zS (ts.getD 0 (0,[])).2=yY then decide (0<ts.length)&&qN n (ts.drop 1)
   else if zS (ts.getD 0 (0,[])).2=yQ then decide (2<ts.length)&&qN n ((ts.drop 1).take (ts.length-2))
   else decide (0<ts.length)
theorem qj(word:Bs):yF [] word = -1:=rfl
theorem nL{n:Nat}{ts:zG}(h:qN n ts=true):0<ts.length:=by
 cases n with
 | zero=>simp[qN]at h
 | succ n =>
   cases ts with
   | nil=>simp[qN,qj]at h
   | cons t r=>simp
theorem ZB(ts:zG)(k:Nat)(h:k<ts.length):eQ (ts.take k)+1+eQ (ts.drop (k+1))<=eQ ts:=by
 have h1:=mF ts k;rw[zJ ts k h,eQ]at h1;omega
theorem vo(n:Nat):∀ts:zG,(pW n ts).1.length<=16*eQ ts:=by
 induction n with
 | zero=>intro ts;simp[pW]
 | succ n ih =>
   intro ts;have bo:=xR ts xW;have ba:=xR ts yE;rw[pW];split
   ·have h1:=ih (ts.take (yF ts xW).toNat);have h2:=ih (ts.drop ((yF ts xW).toNat+1))
    have h3:=ZB ts (yF ts xW).toNat (by omega);simp only[tq,p7,List.length_nil];omega
   ·split
    ·have h1:=ih (ts.take (yF ts yE).toNat);have h2:=ih (ts.drop ((yF ts yE).toNat+1))
     have h3:=ZB ts (yF ts yE).toNat (by omega)
     have h4:∀(c:Prop) [Decidable c] (a:Bs),(if c then Bd a else a).length<=a.length+4:=by
      intro c _ a;split <;> simp[Bd]
     have h5:=h4 ((pW n (ts.take (yF ts yE).toNat)).2=2) (pW n (ts.take (yF ts yE).toNat)).1;have h6:=h4 ((pW n (ts.drop ((yF ts yE).toNat+1))).2=2) (pW n (ts.drop ((yF ts yE).toNat+1))).1;simp only[tq,p7,List.length_nil];omega
    ·split
     ·rename_i hn
      have h1:=ih (ts.drop 1)
      have h4:∀(c:Prop) [Decidable c] (a:Bs),(if c then Bd a else a).length<=a.length+4:=by
       intro c _ a;split <;> simp[Bd]
      have h5:=h4 (0<(pW n (ts.drop 1)).2) (pW n (ts.drop 1)).1
      have h0:0<ts.length:=by
       cases ts with
       | nil=>revert hn;decide
       | cons t r=>simp
      have h3:=ZB ts 0 h0;simp only[tq,p7,List.length_nil,lu]at h3 ⊢;omega
     ·split
      ·have h1:=ih ((ts.drop 1).take (ts.length-2))
       have h2:=Vl (ts.drop 1) (ts.length-2);have h3:=Vm ts 1;omega
      ·have:=Qc ts [] 0;simp only[dD];simp at this;omega
theorem sJ{p:Prop}(h:p):Hid p:=h
theorem kL.drop{o:Nat}{ts:zG}(h:kL w g o ts)(k:Nat):kL w g (o+k*3) (ts.drop k):=by
 intro i hi;have hi':k+i<ts.length:=by rw[ty]at hi;omega
 obtain⟨a,b,c⟩:=h (k+i) hi';have e:(ts.drop k).getD i (0,[])=ts.getD (k+i) (0,[]):=by simp[List.getD]
 rw[e,show o+k*3+i*3=o+(k+i)*3 by omega];exact⟨a,b,c⟩
theorem kL.take{o:Nat}{ts:zG}(h:kL w g o ts)(k:Nat):kL w g o (ts.take k):=by
 intro i hi;rw[p9]at hi;obtain⟨a,b,c⟩:=h i (by omega);have e:(ts.take k).getD i (0,[])=ts.getD i (0,[]):=by simp only[List.getD,bv];rw[tl (by omega)]
 rw[e];exact⟨a,b,c⟩
end Go.Proofs.YtnbpdffdnphbeaaGreatDoor
