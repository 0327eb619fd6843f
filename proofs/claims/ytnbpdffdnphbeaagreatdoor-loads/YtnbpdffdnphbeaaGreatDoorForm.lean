import Derived.Test.YtnbpdffdnphbeaaGreatDoorTokens
set_option maxHeartbeats 1000000
namespace Go.Proofs.YtnbpdffdnphbeaaGreatDoor
open Go.RowKit
variable{g:Nat}{w:World}
def kI(w:World)(g o:Nat)(ts:List (Nat × Bs)):Prop:=∀i,i<ts.length ->
 w.cell? ⟨g,o+i*3,none⟩=some (.string ⟨(ts.getD i (0,[])).2.toArray⟩)/\w.cell? ⟨g,o+i*3+1,none⟩=some (.int .i64 (ts.getD i (0,[])).1)/\w.cell? ⟨g,o+i*3+2,none⟩=some (.string ⟨(zR (ts.getD i (0,[])).2).toArray⟩)
theorem GL(ts:List (Nat × Bs)):∀i,i<ts.length ->
 (oZ ts)[i*3]? = some (.string ⟨(ts.getD i (0,[])).2.toArray⟩)/\(oZ ts)[i*3+1]? = some (.int .i64 (ts.getD i (0,[])).1)/\(oZ ts)[i*3+2]? = some (.string ⟨(zR (ts.getD i (0,[])).2).toArray⟩):=by
 induction ts with
 | nil=>intro i h;simp at h
 | cons t r ih =>
   intro i h;have e:oZ (t::r)=B6 t++oZ r:=by simp[oZ]
   cases i with
   | zero=>rw[e];simp[B6]
   | succ i =>
     have zIH:(B6 t).length=3:=rfl;have hi:=ih i (by simpa using h);rw[e];refine⟨?_,?_,?_⟩
     ·rw[pf (by rw[zIH];omega),zIH,show (i+1)*3-3=i*3 by omega];simpa using hi.1
     ·rw[pf (by rw[zIH];omega),zIH,show (i+1)*3+1-3=i*3+1 by omega];simpa using hi.2.1
     ·rw[pf (by rw[zIH];omega),zIH,show (i+1)*3+2-3=i*3+2 by omega];simpa using hi.2.2
theorem aQ{yV:Array Value}{e:TypeId}{fz:Nat × Nat}{k n:Nat}{xs:List Value}{u:Value}
 (hb:w.heap[g]? = some (.cells yV e fz)) (ht:yV.toList.take n=xs) (hx:xs[k]? = some u):w.cell? ⟨g,k,none⟩=some u:=by
 have h1:yV.toList[k]? = some u:=by
  rw[<-ht,bv]at hx;split at hx
  ·exact hx
  ·cases hx
 simp[World.cell?,hb];simpa using h1
theorem Vx{base:Nat}{v:Value}{ts:List (Nat × Bs)}(h:w.ownsRow base 193 3 v ts.length (oZ ts)) :
 (v=.slice none 0 0/\ts=[])\/∃g cap,v=.slice (some ⟨g,0,none⟩) ts.length cap/\base<=g/\g<w.heap.size/\ts.length<=cap/\cap<=maxLen/\kI w g 0 ts:=by
 rcases h.2 with ⟨h1,h2⟩|⟨g,cap,yV,h1,h2,h3,h4,h5,h6,h7⟩
 ·exact .inl ⟨h1,mu h2⟩
 ·refine .inr ⟨g,cap,h1,h2,?_,h4,h5,?_⟩
  ·rcases po g w.heap.size with h|h
   ·exact h
   ·rw[pj h]at h3;cases h3
  ·intro i hi
   obtain⟨a,b,c⟩:=GL ts i hi;refine⟨?_,?_,?_⟩
   ·rw[l8];exact aQ h3 h7 a
   ·rw[l8];exact aQ h3 h7 b
   ·rw[l8];exact aQ h3 h7 c
theorem jF.below{w':World}(h:jF w)(hb:Below w.heap.size w w'):jF w':=by
 have h0:0<w.heap.size:=by
  have:=h 0 (by omega);rcases Nat.eq_zero_or_pos w.heap.size with h1|h1
  ·rw[World.cell?,pj (by simpa using h1)]at this;cases this
  ·exact h1
 intro j hj;rw[hb.cell (p:=⟨0,j,none⟩) h0];exact h j hj
theorem zBJ(l:Bs)(w:World)(hl:l.length<=4000)(hf:jF w) :
 Calls Tryz.prog 74 #[.string ⟨l.toArray⟩] w fun e w'=>e=.returned (.int .i64 (tQ l))/\Below w.heap.size w w':=by
 have HW:Hid (jF w):=hf;clear hf
 go_enter Tryz.func74,Tryz.ntmps74
 go_wp2_with (go_at_call 109;refine(Qs l _ hl).mono ?_;rintro e w1 ⟨v,rfl,zID,zIX⟩)
 have HF1:Hid (jF w1):=HW.out.below zIX;have HR:Hid (tQ l=jC l.length (yR l 0) jH 0):=rfl;have zJ1:=kW l 0;generalize yR l 0=ts at *;rcases Vx zID with ⟨rfl,rfl⟩|⟨g,cap,rfl,_,_,hcap,zJ3,zIF⟩
 ·clear zID zJ1
  go_loop [4,5,6] (fun sv ov iv=>sv=.string ⟨jH.toArray⟩/\ov=.int .i64 0/\iv=.int .i64 0) (fun _ _ _=>0)
  case atStart=>exact⟨rfl,rfl,rfl⟩
  case round =>
   obtain⟨rfl,rfl,rfl⟩:=hrel;have hs:(!jH==[108,105,110,101])=false:=by decide
   go_wp2_with fail
   go_ret;exact⟨zY (by rw[HR.out];rfl),zIX⟩
 ·have HS:Hid (kI w1 g 0 ts):=zIF
  clear zID zIF
  go_loop [4,5,6] (fun sv ov iv=>∃(i:Nat) (st:Bs) (op:Int),i<=ts.length/\sv=.string ⟨st.toArray⟩/\ov=.int .i64 op/\iv=.int .i64 i /\ -(i:Int)<=op/\op<=i/\Hid (jC l.length (ts.drop i) st op=tQ l)) (fun _ _ iv=>ts.length-(intOf iv).toNat)
  case atStart=>exact⟨0,jH,0,tr _,rfl,rfl,rfl,by omega,by omega,HR.out.symm⟩
  case round =>
   obtain⟨i,st,op,hi,rfl,rfl,rfl,ho1,ho2,HI⟩:=hrel;by_cases zIB:i<ts.length
   ·obtain⟨_,hc1,hc2⟩:=HS.out i zIB
    have HD:Hid (ts.drop i=ts.getD i (0,[])::ts.drop (i+1)):=zJ ts i zIB;obtain⟨tk,htk⟩:∃tk,ts.getD i (0,[])=tk:=⟨_,rfl⟩;rw[htk]at hc1 hc2 HD;obtain⟨cl,hcl⟩:∃cl,zR tk.2=cl:=⟨_,rfl⟩;rw[hcl]at hc2;obtain⟨st2,hst2⟩:∃st2,zO st cl op=st2:=⟨_,rfl⟩;have HN:Hid (zO st cl op=st2):=hst2
    have HI2:Hid ((if st2=[] then (tk.1:Int) else jC l.length (ts.drop (i+1)) st2 (if cl=yP then op+1 else if cl=xT then op-1 else op))=tQ l):=by
     have:=HI.out;rw[HD.out,jC,hcl,hst2]at this;exact this
    clear htk hcl hst2 HI HD;simp only[l8]at hc1 hc2;by_cases zIU:st2=[]
    ·have he:List.isEmpty st2=true:=by simp[zIU]
     have HE:Hid ((tk.1:Int)=tQ l):=by have:=HI2.out;rw[tj zIU]at this;exact this
     clear zIU HI2
     go_wp2_with (go_at_call 128;refine(Zb st cl op _ HF1.out).mono ?_;rintro e w' ⟨rfl,hw⟩;obtain rfl:=hw.symm;rw[HN.out])
     go_ret;exact⟨zY HE.out,zIX⟩
    ·have he:List.isEmpty st2=false:=by simp[zIU]
     have HE:Hid (jC l.length (ts.drop (i+1)) st2 (if cl=yP then op+1 else if cl=xT then op-1 else op)=tQ l):=by have:=HI2.out;rw[tg zIU]at this;exact this
     clear zIU HI2;by_cases k1:cl=yP
     ·have HG:Hid (jC l.length (ts.drop (i+1)) st2 (op+1)=tQ l):=by have:=HE.out;rw[tj k1]at this;exact this
      have b1:(cl==[40])=true:=by rw[k1];rfl
      have b2:(cl==[41])=false:=by rw[k1];rfl
      clear k1 HE
      go_wp2_with (go_at_call 128;refine(Zb st cl op _ HF1.out).mono ?_;rintro e w' ⟨rfl,hw⟩;obtain rfl:=hw.symm;rw[HN.out])
      go_round
      case rel=>exact⟨i+1,st2,op+1,by omega,rfl,rfl,by go_num,by omega,by omega,HG.out⟩
      case measure=>simp[intOf];omega
     ·by_cases k2:cl=xT
      ·have HG:Hid (jC l.length (ts.drop (i+1)) st2 (op-1)=tQ l):=by have:=HE.out;rw[tg k1,tj k2]at this;exact this
       have b1:(cl==[40])=false:=by rw[k2];rfl
       have b2:(cl==[41])=true:=by rw[k2];rfl
       clear k1 k2 HE
       go_wp2_with (go_at_call 128;refine(Zb st cl op _ HF1.out).mono ?_;rintro e w' ⟨rfl,hw⟩;obtain rfl:=hw.symm;rw[HN.out])
       go_round
       case rel=>exact⟨i+1,st2,op-1,by omega,rfl,rfl,by go_num,by omega,by omega,HG.out⟩
       case measure=>simp[intOf];omega
      ·have HG:Hid (jC l.length (ts.drop (i+1)) st2 op=tQ l):=by have:=HE.out;rw[tg k1,tg k2]at this;exact this
       have b1:(cl==[40])=false:=by simpa[yP] using k1
       have b2:(cl==[41])=false:=by simpa[xT] using k2
       clear k1 k2 HE
       go_wp2_with (go_at_call 128;refine(Zb st cl op _ HF1.out).mono ?_;rintro e w' ⟨rfl,hw⟩;obtain rfl:=hw.symm;rw[HN.out])
       go_round
       case rel=>exact⟨i+1,st2,op,by omega,rfl,rfl,by go_num,by omega,by omega,HG.out⟩
       case measure=>simp[intOf];omega
   ·have hd:ts.drop i=[]:=tu (by omega)
    by_cases zIU:st=jH
    ·have HE:Hid (tQ l = -1):=by have:=HI.out;rw[hd,jC,tj zIU]at this;exact this.symm
     have b1:(!st==[108,105,110,101])=false:=by rw[zIU];rfl
     clear hd zIU HI;go_wp2_with fail
     go_ret;exact⟨zY HE.out.symm,zIX⟩
    ·have HE:Hid (tQ l=l.length):=by have:=HI.out;rw[hd,jC,tg zIU]at this;exact this.symm
     have b1:(!st==[108,105,110,101])=true:=by simpa[jH] using zIU
     clear hd zIU HI;go_wp2_with fail
     go_ret;exact⟨zY HE.out.symm,zIX⟩
abbrev zG:=List (Nat × Bs)
def opn(cl:Bs)(op:Int):Int:=if cl=yP then op+1 else if cl=xT then op-1 else op
def uU(word:Bs):zG->Nat->Int->Int->Int
 | [],_,_,at'=>at'
 | t::r,i,op,at'=>uU word r (i+1) (opn (zR t.2) op) (if opn (zR t.2) op=0/\zR t.2=word then (i:Int) else at')
def yF(ts:zG)(word:Bs):Int:=uU word ts 0 0 (-1)
theorem BV(word:Bs)(ts:zG):∀(i:Nat) (op at':Int),-1<=at'->at'<i -> -1<=uU word ts i op at'/\uU word ts i op at'<i+ts.length:=by
 induction ts with
 | nil=>intro i op a h1 h2;simp[uU];omega
 | cons t r ih =>
   intro i op a h1 h2;rw[uU];have:=ih (i+1) (opn (zR t.2) op) (if opn (zR t.2) op=0/\zR t.2=word then (i:Int) else a) (by split <;> omega) (by split <;> omega);simp only[p7];omega
theorem xS(ts:zG)(word:Bs) : -1<=yF ts word/\yF ts word<ts.length:=by
 have:=BV word ts 0 0 (-1) (by omega) (by omega);unfold yF;omega
def Uj:Bs->Nat->zG->Bs
 | s,_,[]=>s
 | s,i,t::r=>Uj ((if 0<i then s++[32] else s)++t.2) (i+1) r
def cZ(ts:zG):Bs:=Uj [] 0 ts
def eO:zG->Nat
 | []=>0
 | t::r=>t.2.length+1+eO r
theorem Bf(a b:zG):eO (a++b)=eO a+eO b:=by
 induction a with
 | nil=>simp[eO]
 | cons t r ih=>simp[eO,ih];omega
theorem mE(ts:zG)(k:Nat):eO (ts.take k)+eO (ts.drop k)=eO ts:=by
 rw[<-Bf,List.take_append_drop]
theorem Vf(ts:zG)(k:Nat):eO (ts.drop k)<=eO ts:=by have:=mE ts k;omega
theorem Ve(ts:zG)(k:Nat):eO (ts.take k)<=eO ts:=by have:=mE ts k;omega
theorem XX(ts:zG):∀(s:Bs) (i:Nat),(Uj s i ts).length<=s.length+eO ts:=by
 induction ts with
 | nil=>intro s i;simp[Uj,eO]
 | cons t r ih =>
   intro s i;rw[Uj];have h1:=ih ((if 0<i then s++[32] else s)++t.2) (i+1)
   have h2:((if 0<i then s++[32] else s)++t.2).length<=s.length+1+t.2.length:=by
    split <;> simp <;> omega
   simp only[eO];omega
def yW:Bs:=[110,111,116]
def xO:Bs:=[119,104,101,110]
def zQ:Bs:=[114,117,108,101]
def UW(s:Bs):Bs:=[40,32]++s++[32,41]
def pV:Nat->zG->Bs × Int
 | 0,_=>([],0)
 | n+1,ts =>
   if 0<=yF ts xX then ((pV n (ts.take (yF ts xX).toNat)).1++[32,111,114,32]++(pV n (ts.drop ((yF ts xX).toNat+1))).1,2)
   else if 0<=yF ts yE then
    let a:=pV n (ts.take (yF ts yE).toNat)
    let b:=pV n (ts.drop ((yF ts yE).toNat+1))
    ((if a.2=2 then UW a.1 else a.1)++[32,97,110,100,32]++(if b.2=2 then UW b.1 else b.1),1)
   else if zR (ts.getD 0 (0,[])).2=yW then
    let a:=pV n (ts.drop 1)
    ([110,111,116,32]++(if 0<a.2 then UW a.1 else a.1),0)
   else if zR (ts.getD 0 (0,[])).2=yP then pV n ((ts.drop 1).take (ts.length-2))
   else (cZ ts,0)
def mR:zG->Nat->Option Nat
 | [],_=>none
 | t::r,i=>if zR t.2=xO then some i else mR r (i+1)
def mD(ts:zG):Int:=match mR ts 0 with|some i=>(i:Int)|none=>(ts.length:Int)-1
theorem yN(ts:zG)(word:Bs)(g o cap:Nat)(w:World)(hs:kI w g o ts)(hn:ts.length<=10000)(_hc:ts.length<=cap) :
 Calls Tryz.prog 135 #[.slice (some ⟨g,o,none⟩) ts.length cap,.string ⟨word.toArray⟩] w fun e w'=>e=.returned (.int .i64 (yF ts word))/\w'=w:=by
 have HS:Hid (kI w g o ts):=hs;clear hs
 go_enter Tryz.func135,Tryz.ntmps135
 go_wp2
 go_loop [5,6,7] (fun ov av iv=>∃(i:Nat) (op at':Int),i<=ts.length/\ov=.int .i64 op/\av=.int .i64 at'/\iv=.int .i64 i /\ -(i:Int)<=op/\op<=i/\Hid (uU word (ts.drop i) i op at'=yF ts word)) (fun _ _ iv=>ts.length-(intOf iv).toNat)
 case atStart=>exact⟨0,0,-1,tr _,rfl,rfl,rfl,by omega,by omega,rfl⟩
 case round =>
  obtain⟨i,op,at',hi,rfl,rfl,rfl,ho1,ho2,HI⟩:=hrel;by_cases zIB:i<ts.length
  ·obtain⟨_,_,hc2⟩:=HS.out i zIB
   have HD:Hid (ts.drop i=ts.getD i (0,[])::ts.drop (i+1)):=zJ ts i zIB;obtain⟨cl,hcl⟩:∃cl,zR (ts.getD i (0,[])).2=cl:=⟨_,rfl⟩;rw[hcl]at hc2
   have HI2:Hid (uU word (ts.drop (i+1)) (i+1) (opn cl op) (if opn cl op=0/\cl=word then (i:Int) else at')=yF ts word):=by
    have:=HI.out;rw[HD.out,uU,hcl]at this;exact this
   clear HI HD hcl;by_cases k1:cl=yP
   ·have k2:True:=trivial
    have zJ9:opn cl op=op+1:=by simp[opn,k1]
    have b1:(cl==[40])=true:=by rw[k1];rfl
    have b2:(cl==[41])=false:=by rw[k1];rfl
    by_cases hz:op+1=0
    ·have c0:(op+1==0)=true:=by simpa using hz
     by_cases hw:cl=word
     ·have c1:(cl==word)=true:=by simpa using hw
      have HE:Hid (uU word (ts.drop (i+1)) (i+1) (op+1) (i:Int)=yF ts word):=by have:=HI2.out;rw[zJ9,tj ⟨hz,hw⟩]at this;exact this
      clear HI2 zJ9 hz hw k1 k2
      go_wp2
      all_goals
       go_round
       case rel=>exact⟨i+1,op+1,i,by omega,by first|rfl|go_num,rfl,by go_num,by omega,by omega,HE.out⟩
       case measure=>simp[intOf];omega
     ·have c1:(cl==word)=false:=by simpa using hw
      have HE:Hid (uU word (ts.drop (i+1)) (i+1) (op+1) at'=yF ts word):=by have:=HI2.out;rw[zJ9,tg (fun h=>hw h.2)]at this;exact this
      clear HI2 zJ9 hz hw k1 k2
      go_wp2
      all_goals
       go_round
       case rel=>exact⟨i+1,op+1,at',by omega,by first|rfl|go_num,rfl,by go_num,by omega,by omega,HE.out⟩
       case measure=>simp[intOf];omega
    ·have c0:(op+1==0)=false:=by simpa using hz
     have HE:Hid (uU word (ts.drop (i+1)) (i+1) (op+1) at'=yF ts word):=by have:=HI2.out;rw[zJ9,tg (fun h=>hz h.1)]at this;exact this
     clear HI2 zJ9 hz k1 k2
     go_wp2
     all_goals
      go_round
      case rel=>exact⟨i+1,op+1,at',by omega,by first|rfl|go_num,rfl,by go_num,by omega,by omega,HE.out⟩
      case measure=>simp[intOf];omega
   by_cases k2:cl=xT
   ·have zJ9:opn cl op=op-1:=by simp[opn,k2,yP,xT]
    have b1:(cl==[40])=false:=by rw[k2];rfl
    have b2:(cl==[41])=true:=by rw[k2];rfl
    by_cases hz:op-1=0
    ·have c0:(op-1==0)=true:=by simpa using hz
     by_cases hw:cl=word
     ·have c1:(cl==word)=true:=by simpa using hw
      have HE:Hid (uU word (ts.drop (i+1)) (i+1) (op-1) (i:Int)=yF ts word):=by have:=HI2.out;rw[zJ9,tj ⟨hz,hw⟩]at this;exact this
      clear HI2 zJ9 hz hw k1 k2
      go_wp2
      all_goals
       go_round
       case rel=>exact⟨i+1,op-1,i,by omega,by first|rfl|go_num,rfl,by go_num,by omega,by omega,HE.out⟩
       case measure=>simp[intOf];omega
     ·have c1:(cl==word)=false:=by simpa using hw
      have HE:Hid (uU word (ts.drop (i+1)) (i+1) (op-1) at'=yF ts word):=by have:=HI2.out;rw[zJ9,tg (fun h=>hw h.2)]at this;exact this
      clear HI2 zJ9 hz hw k1 k2
      go_wp2
      all_goals
       go_round
       case rel=>exact⟨i+1,op-1,at',by omega,by first|rfl|go_num,rfl,by go_num,by omega,by omega,HE.out⟩
       case measure=>simp[intOf];omega
    ·have c0:(op-1==0)=false:=by simpa using hz
     have HE:Hid (uU word (ts.drop (i+1)) (i+1) (op-1) at'=yF ts word):=by have:=HI2.out;rw[zJ9,tg (fun h=>hz h.1)]at this;exact this
     clear HI2 zJ9 hz k1 k2
     go_wp2
     all_goals
      go_round
      case rel=>exact⟨i+1,op-1,at',by omega,by first|rfl|go_num,rfl,by go_num,by omega,by omega,HE.out⟩
      case measure=>simp[intOf];omega
   have zJ9:opn cl op=op:=by simp[opn,k1,k2]
   have b1:(cl==[40])=false:=by simpa[yP] using k1
   have b2:(cl==[41])=false:=by simpa[xT] using k2
   by_cases hz:op=0
   ·have c0:(op==0)=true:=by simpa using hz
    by_cases hw:cl=word
    ·have c1:(cl==word)=true:=by simpa using hw
     have HE:Hid (uU word (ts.drop (i+1)) (i+1) (op) (i:Int)=yF ts word):=by have:=HI2.out;rw[zJ9,tj ⟨hz,hw⟩]at this;exact this
     clear HI2 zJ9 hz hw k1 k2
     go_wp2
     all_goals
      go_round
      case rel=>exact⟨i+1,op,i,by omega,by first|rfl|go_num,rfl,by go_num,by omega,by omega,HE.out⟩
      case measure=>simp[intOf];omega
    ·have c1:(cl==word)=false:=by simpa using hw
     have HE:Hid (uU word (ts.drop (i+1)) (i+1) (op) at'=yF ts word):=by have:=HI2.out;rw[zJ9,tg (fun h=>hw h.2)]at this;exact this
     clear HI2 zJ9 hz hw k1 k2
     go_wp2
     all_goals
      go_round
      case rel=>exact⟨i+1,op,at',by omega,by first|rfl|go_num,rfl,by go_num,by omega,by omega,HE.out⟩
      case measure=>simp[intOf];omega
   ·have c0:(op==0)=false:=by simpa using hz
    have HE:Hid (uU word (ts.drop (i+1)) (i+1) (op) at'=yF ts word):=by have:=HI2.out;rw[zJ9,tg (fun h=>hz h.1)]at this;exact this
    clear HI2 zJ9 hz k1 k2
    go_wp2
    all_goals
     go_round
     case rel=>exact⟨i+1,op,at',by omega,by first|rfl|go_num,rfl,by go_num,by omega,by omega,HE.out⟩
     case measure=>simp[intOf];omega
  ·have hd:ts.drop i=[]:=tu (by omega)
   have HE:Hid (yF ts word=at'):=by have:=HI.out;rw[hd,uU]at this;exact this.symm
   clear hd HI
   go_wp2
   go_ret;exact⟨zY HE.out.symm,rfl⟩
theorem wF(ts:zG)(g o cap:Nat)(w:World)(hs:kI w g o ts)(hn:ts.length<=10000)(_hc:ts.length<=cap) :
 Calls Tryz.prog 78 #[.slice (some ⟨g,o,none⟩) ts.length cap] w fun e w'=>e=.returned (.int .i64 (mD ts))/\w'=w:=by
 have HS:Hid (kI w g o ts):=hs;clear hs
 go_enter Tryz.func78,Tryz.ntmps78
 go_wp2
 go_loop [3] (fun iv=>∃i:Nat,i<=ts.length/\iv=.int .i64 i/\Hid (mR (ts.drop i) i=mR ts 0)) (fun iv=>ts.length-(intOf iv).toNat)
 case atStart=>exact⟨0,tr _,rfl,rfl⟩
 case round =>
  obtain⟨i,hi,rfl,HI⟩:=hrel;by_cases zIB:i<ts.length
  ·obtain⟨_,_,hc2⟩:=HS.out i zIB
   have HD:Hid (ts.drop i=ts.getD i (0,[])::ts.drop (i+1)):=zJ ts i zIB;obtain⟨cl,hcl⟩:∃cl,zR (ts.getD i (0,[])).2=cl:=⟨_,rfl⟩;rw[hcl]at hc2;have HI2:Hid ((if cl=xO then some i else mR (ts.drop (i+1)) (i+1))=mR ts 0):=by have:=HI.out;rw[HD.out,mR,hcl]at this;exact this
   clear HI HD hcl;by_cases k1:cl=xO
   ·have HE:Hid (mD ts=i):=by have:=HI2.out;rw[tj k1]at this;unfold Hid mD;rw[<-this]
    have b1:(cl==[119,104,101,110])=true:=by rw[k1];rfl
    clear HI2 k1
    go_wp2
    go_ret;exact⟨zY HE.out.symm,rfl⟩
   ·have HE:Hid (mR (ts.drop (i+1)) (i+1)=mR ts 0):=by have:=HI2.out;rw[tg k1]at this;exact this
    have b1:(cl==[119,104,101,110])=false:=by simpa[xO] using k1
    clear HI2 k1
    go_wp2
    go_round
    case rel=>exact⟨i+1,by omega,by go_num,HE.out⟩
    case measure=>simp[intOf];omega
  ·have hd:ts.drop i=[]:=tu (by omega)
   have HE:Hid (mD ts=(ts.length:Int)-1):=by have:=HI.out;rw[hd,mR]at this;unfold Hid mD;rw[<-this]
   clear hd HI
   go_wp2
   go_ret;exact⟨zY HE.out.symm,rfl⟩
def qJ:Nat->zG->Bool
 | 0,_=>false
 | n+1,ts =>
   if 0<=yF ts xX then qJ n (ts.take (yF ts xX).toNat)&&qJ n (ts.drop ((yF ts xX).toNat+1))
   else if 0<=yF ts yE then qJ n (ts.take (yF ts yE).toNat)&&qJ n (ts.drop ((yF ts yE).toNat+1))
   else if zR (ts.getD 0 (0,[])).2=yW then decide (0<ts.length)&&qJ n (ts.drop 1)
   else if zR (ts.getD 0 (0,[])).2=yP then decide (2<ts.length)&&qJ n ((ts.drop 1).take (ts.length-2))
   else decide (0<ts.length)
theorem qj(word:Bs):yF [] word = -1:=rfl
theorem nI{n:Nat}{ts:zG}(h:qJ n ts=true):0<ts.length:=by
 cases n with
 | zero=>simp[qJ]at h
 | succ n =>
   cases ts with
   | nil=>simp[qJ,qj]at h
   | cons t r=>simp
theorem Z9(ts:zG)(k:Nat)(h:k<ts.length):eO (ts.take k)+1+eO (ts.drop (k+1))<=eO ts:=by
 have h1:=mE ts k;rw[zJ ts k h,eO]at h1;omega
theorem vl(n:Nat):∀ts:zG,(pV n ts).1.length<=16*eO ts:=by
 induction n with
 | zero=>intro ts;simp[pV]
 | succ n ih =>
   intro ts;have bo:=xS ts xX;have ba:=xS ts yE;rw[pV];split
   ·have h1:=ih (ts.take (yF ts xX).toNat);have h2:=ih (ts.drop ((yF ts xX).toNat+1))
    have h3:=Z9 ts (yF ts xX).toNat (by omega);simp only[tq,p7,List.length_nil];omega
   ·split
    ·have h1:=ih (ts.take (yF ts yE).toNat);have h2:=ih (ts.drop ((yF ts yE).toNat+1))
     have h3:=Z9 ts (yF ts yE).toNat (by omega)
     have h4:∀(c:Prop) [Decidable c] (a:Bs),(if c then UW a else a).length<=a.length+4:=by
      intro c _ a;split <;> simp[UW]
     have h5:=h4 ((pV n (ts.take (yF ts yE).toNat)).2=2) (pV n (ts.take (yF ts yE).toNat)).1;have h6:=h4 ((pV n (ts.drop ((yF ts yE).toNat+1))).2=2) (pV n (ts.drop ((yF ts yE).toNat+1))).1;simp only[tq,p7,List.length_nil];omega
    ·split
     ·rename_i hn
      have h1:=ih (ts.drop 1)
      have h4:∀(c:Prop) [Decidable c] (a:Bs),(if c then UW a else a).length<=a.length+4:=by
       intro c _ a;split <;> simp[UW]
      have h5:=h4 (0<(pV n (ts.drop 1)).2) (pV n (ts.drop 1)).1
      have h0:0<ts.length:=by
       cases ts with
       | nil=>revert hn;decide
       | cons t r=>simp
      have h3:=Z9 ts 0 h0;simp only[tq,p7,List.length_nil,l8]at h3 ⊢;omega
     ·split
      ·have h1:=ih ((ts.drop 1).take (ts.length-2))
       have h2:=Ve (ts.drop 1) (ts.length-2);have h3:=Vf ts 1;omega
      ·have:=XX ts [] 0;simp only[cZ];simp at this;omega
theorem sG{p:Prop}(h:p):Hid p:=h
theorem kI.drop{o:Nat}{ts:zG}(h:kI w g o ts)(k:Nat):kI w g (o+k*3) (ts.drop k):=by
 intro i hi;have hi':k+i<ts.length:=by rw[ty]at hi;omega
 obtain⟨a,b,c⟩:=h (k+i) hi';have e:(ts.drop k).getD i (0,[])=ts.getD (k+i) (0,[]):=by simp[List.getD]
 rw[e,show o+k*3+i*3=o+(k+i)*3 by omega];exact⟨a,b,c⟩
theorem kI.take{o:Nat}{ts:zG}(h:kI w g o ts)(k:Nat):kI w g o (ts.take k):=by
 intro i hi;rw[p9]at hi;obtain⟨a,b,c⟩:=h i (by omega);have e:(ts.take k).getD i (0,[])=ts.getD i (0,[]):=by simp only[List.getD,bv];rw[tj (by omega)]
 rw[e];exact⟨a,b,c⟩
end Go.Proofs.YtnbpdffdnphbeaaGreatDoor
