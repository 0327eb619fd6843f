import Derived.Laws.Strings2
import Derived.Test.YtnbpdffdnphbeaaGreatDoorProg
import Derived.WalkKit
import Derived.WalkSpells
import Derived.WalkLawsBesides
set_option maxHeartbeats 400000
namespace Go.Proofs.YtnbpdffdnphbeaaGreatDoor
def aE(c:Int):Bool:=c==32 || c==10
def gI(c:Int):Bool:=decide (97<=c)&&decide (c<=122)
def aD(c:Int):Bool:=decide (48<=c)&&decide (c<=57)
def tQ(c:Int):Int:=if 97<=c/\c<=122 then 1 else if 48<=c/\c<=57 then 2 else if c=32\/c=10 then 3 else 0
theorem zA1{c:Int}(h:97<=c/\c<=122):tQ c=1:=by simp[tQ,h]
theorem zA0{c:Int}(h:48<=c/\c<=57):tQ c=2:=by unfold tQ;rw[if_neg (by omega),if_pos h]
theorem jz{c:Int}(h:c=32\/c=10):tQ c=3:=by unfold tQ;rw[if_neg (by omega),if_neg (by omega),if_pos h]
theorem zA2{c:Int}(h1:¬(97<=c/\c<=122))(h2:¬(48<=c/\c<=57))(h3:¬(c=32\/c=10)):tQ c=0:=by
 unfold tQ;rw[if_neg h1,if_neg h2,if_neg h3]
abbrev Bs:=List UInt8
theorem oQ(l:Bs)(k:Nat)(h:k<(ByteArray.mk l.toArray).size):(ByteArray.mk l.toArray)[k]=l.getD k 0:=by
 have h':k<l.length:=by have h1:k<l.toArray.size:=h;simpa using h1
 have e:(ByteArray.mk l.toArray)[k]=l.toArray[k]'(by simpa using h'):=rfl;rw[e];simp[List.getD,h']
theorem YE(c d:UInt8):(((c.toNat:Int)==(d.toNat:Int))=true) ↔ c=d:=by
 rw[beq_iff_eq];constructor
 ·intro h;exact UInt8.toNat_inj.1 (by omega)
 ·intro h;rw[h]
def JY(l s:Bs):Nat->Nat->Nat->Bool
 | 0,_,_=>false
 | n+1,a,i=>if i=l.length\/l.getD i 0=32 then (if (l.drop a).take (i-a)=s then true else JY l s n (i+1) (i+1)) else JY l s n a (i+1)
def xR(l s:Bs):Bool:=JY l s (l.length+1) 0 0
theorem zC6{l s:Bs}{a k:Nat}(hk:k<=l.length)(h:k=l.length\/l.getD k 0=32)(h2:(l.drop a).take (k-a)=s):JY l s (l.length+1-k) a k=true:=by
 rw[show l.length+1-k=(l.length-k)+1 by omega,JY,if_pos h,if_pos h2]
theorem kj{l s:Bs}{a k:Nat}(hk:k<=l.length)(h:k=l.length\/l.getD k 0=32)(h2:¬(l.drop a).take (k-a)=s):JY l s (l.length+1-k) a k=JY l s (l.length+1-(k+1)) (k+1) (k+1):=by
 rw[show l.length+1-k=(l.length-k)+1 by omega,JY,if_pos h,if_neg h2,show l.length+1-(k+1)=l.length-k by omega]
theorem zEO{l s:Bs}{a k:Nat}(hk:k<=l.length)(h:¬(k=l.length\/l.getD k 0=32)):JY l s (l.length+1-k) a k=JY l s (l.length+1-(k+1)) a (k+1):=by
 rw[show l.length+1-k=(l.length-k)+1 by omega,JY,if_neg h,show l.length+1-(k+1)=l.length-k by omega]
theorem zC7{l s:Bs}{a k:Nat}(hk:¬k<=l.length):JY l s (l.length+1-k) a k=false:=by
 rw[show l.length+1-k=0 by omega,JY]
def so(c:UInt8):Int:=tQ (c.toNat:Int)
def jX(k:Int):Bs->Nat
 | []=>0
 | c::r=>if so c=k then jX k r+1 else 0
theorem zA4(k:Int)(l:Bs):jX k l<=l.length:=by
 induction l with
 | nil=>simp[jX]
 | cons c r ih=>simp only[jX];split <;> simp <;> omega
theorem oB(l:Bs)(k:Nat)(h:k<l.length):l.drop k=l.getD k 0::l.drop (k+1):=by
 rw[List.drop_eq_getElem_cons h];simp[List.getD,h]
theorem Jy{k:Int}{l:Bs}{i:Nat}(h:i<l.length)(he:so (l.getD i 0)=k):i+jX k (l.drop i)=(i+1)+jX k (l.drop (i+1)):=by
 rw[oB l i h,jX,if_pos he];omega
theorem YU{k:Int}{l:Bs}{i:Nat}(h:i<l.length)(he:¬so (l.getD i 0)=k):i+jX k (l.drop i)=i:=by
 rw[oB l i h,jX,if_neg he];omega
theorem YV{k:Int}{l:Bs}{i:Nat}(h:¬i<l.length):i+jX k (l.drop i)=i:=by
 rw[List.drop_eq_nil_of_le (by omega)];rfl
def lH:Bs:=[46,46,32,60,61,32,33,61,32,62,61]
def pG:Bs:=[110,117,109,32,102,108,97,103,32,114,117,108,101,32,111,118,101,114,32,119,104,101,110,32,111,114,32,97,110,100,32,110,111,116,32,104,97,115,32,97,108,119,97,121,115]
def lU:Bs:=[58,32,61,32,46,46,32,59,32,40,32,41,32,60,32,60,61,32,33,61,32,62,61,32,62,32,43,32,45,32,42]
def Ks(l:Bs):Bool:=decide (1<l.length)&&xR lH (l.take 2)
def vX(l:Bs):Nat:=if so (l.getD 0 0)=0 then (if Ks l=true then 2 else 1) else 1+jX (so (l.getD 0 0)) (l.drop 1)
theorem nU(l:Bs):1<=vX l:=by unfold vX;split <;> (try split) <;> omega
theorem JK{l:Bs}(h:0<l.length):vX l<=l.length:=by
 unfold vX;split
 ·split
  ·rename_i _ h2;simp[Ks]at h2;omega
  ·omega
 ·have:=zA4 (so (l.getD 0 0)) (l.drop 1);rw[List.length_drop]at this;omega
def Yw:Bs:=[66,65,68]
def yP:Bs:=[78,65,77,69]
def zV:Bs:=[78,85,77,66,69,82]
def zX(l:Bs):Bs :=
 if so (l.getD 0 0)=1 then (if 8<l.length then Yw else if xR pG l=true then l else yP)
 else if so (l.getD 0 0)=2 then (if 4<l.length\/1<l.length/\l.getD 0 0=48 then Yw else zV)
 else if xR lU l=true then l else Yw
def jS:Nat->Bs->Nat->List (Nat × Bs)
 | 0,_,_=>[]
 | n+1,l,p=>if l.length=0 then [] else if so (l.getD 0 0)=3 then jS n (l.drop 1) (p+1) else (p,l.take (vX l))::jS n (l.drop (vX l)) (p+vX l)
theorem fD(n p:Nat):jS n [] p=[]:=by cases n <;> simp[jS]
theorem ZT(n:Nat):∀(m:Nat) (l:Bs) (p:Nat),l.length<=n->l.length<=m->jS n l p=jS m l p:=by
 induction n with
 | zero=>intro m l p h _;have:l=[]:=List.eq_nil_of_length_eq_zero (by omega);subst this;rw[fD,fD]
 | succ n ih =>
   intro m l p hn hm
   cases m with
   | zero=>have:l=[]:=List.eq_nil_of_length_eq_zero (by omega);subst this;rw[fD,fD]
   | succ m =>
     simp only[jS];split
     ·rfl
     ·have:=nU l
      rw[ih m (l.drop 1) _ (by simp;omega) (by simp;omega),ih m (l.drop (vX l)) _ (by simp;omega) (by simp;omega)]
def zP(l:Bs)(p:Nat):List (Nat × Bs):=jS l.length (l.drop p) p
theorem YJ{l:Bs}{p:Nat}(h:¬p<l.length):zP l p=[]:=by
 unfold zP;rw[List.drop_eq_nil_of_le (by omega),fD]
theorem bR(l:Bs)(p i:Nat):(l.drop p).getD i 0=l.getD (p+i) 0:=by simp[List.getD]
theorem oG{l:Bs}{p:Nat}(h:p<l.length)(hb:so (l.getD p 0)=3):zP l p=zP l (p+1):=by
 unfold zP;rw[ZT l.length (l.length+1) (l.drop p) p (by simp) (by simp;omega),jS,if_neg (by simp;omega),if_pos (by rw[bR];exact hb),List.drop_drop]
theorem YI{l:Bs}{p:Nat}(h:p<l.length)(hb:¬so (l.getD p 0)=3):zP l p=(p,(l.drop p).take (vX (l.drop p)))::zP l (p+vX (l.drop p)):=by
 unfold zP;rw[ZT l.length (l.length+1) (l.drop p) p (by simp) (by simp;omega),jS,if_neg (by simp;omega),if_neg (by rw[bR];exact hb),List.drop_drop]
theorem UE(n:Nat):∀(l:Bs) (p:Nat),jX 3 (l.drop p)=n->zP l p=zP l (p+n):=by
 induction n with
 | zero=>intro l p _;rfl
 | succ n ih =>
   intro l p h;by_cases hp:p<l.length
   ·rw[oB l p hp,jX]at h
    split at h
    ·rename_i hb
     rw[oG hp hb,ih l (p+1) (by omega)];congr 1;omega
    ·omega
   ·rw[List.drop_eq_nil_of_le (by omega)]at h;simp[jX]at h
theorem Qe{l:Bs}{p:Nat}(h:p<l.length)(hb:so (l.getD p 0)=3):zP l p=zP l (p+vX (l.drop p)):=by
 have e:vX (l.drop p)=1+jX 3 ((l.drop p).drop 1):=by
  unfold vX;rw[bR,Nat.add_zero,if_neg (by omega),hb]
 rw[e,oG h hb,UE _ l (p+1) rfl,List.drop_drop,Nat.add_assoc]
theorem UQ(n:Nat):∀(l:Bs) (p:Nat),(jS n l p).length<=l.length:=by
 induction n with
 | zero=>intro l p;simp[jS]
 | succ n ih =>
   intro l p;simp only[jS];split
   ·simp
   ·split
    ·have:=ih (l.drop 1) (p+1);simp at this ⊢;omega
    ·have h1:=ih (l.drop (vX l)) (p+vX l);have h2:=nU l
     rw[List.length_cons];rw[List.length_drop]at h1;omega
theorem uU(l:Bs)(p:Nat):(zP l p).length<=l.length:=by
 have:=UQ l.length (l.drop p) p;unfold zP;simp at this;omega
def vA:List Bs:=[[108,105,110,101],[110,117,109],[110,117,109],[110,117,109],[78,65,77,69],[102,114,111,109],[102,114,111,109],[78,85,77,66,69,82],[116,111],[116,111],[46,46],[116,105,108,108],[116,105,108,108],[78,85,77,66,69,82],[101,110,100],[108,105,110,101],[102,108,97,103],[108,97,115,116],[108,97,115,116],[78,65,77,69],[101,110,100],[108,105,110,101],[111,118,101,114],[111,118,101,114],[111,118,101,114],[78,65,77,69],[108,97,115,116],[101,110,100],[59],[108,105,110,101],[108,105,110,101],[114,117,108,101],[114,117,108,101],[114,117,108,101],[78,65,77,69],[108,97,98,101,108],[108,97,98,101,108],[58],[99,111,108,111,110],[99,111,108,111,110],[78,65,77,69],[104,101,97,100],[104,101,97,100],[61],[112,97,114,116],[112,97,114,116],[78,65,77,69],[112,97,114,116,101,100],[112,97,114,116],[78,85,77,66,69,82],[99,111,117,110,116,101,100],[99,111,117,110,116,101,100],[42],[116,105,109,101,115],[99,111,117,110,116,101,100],[43],[112,97,114,116],[99,111,117,110,116,101,100],[45],[112,97,114,116],[99,111,117,110,116,101,100],[119,104,101,110],[102,97,99,116],[116,105,109,101,115],[78,65,77,69],[112,97,114,116,101,100],[112,97,114,116,101,100],[43],[112,97,114,116],[112,97,114,116,101,100],[45],[112,97,114,116],[112,97,114,116,101,100],[119,104,101,110],[102,97,99,116],[102,97,99,116],[110,111,116],[102,97,99,116],[102,97,99,116],[40],[102,97,99,116],[102,97,99,116],[97,108,119,97,121,115],[100,111,110,101],[102,97,99,116],[104,97,115],[104,97,115],[102,97,99,116],[78,65,77,69],[110,97,109,101,100],[104,97,115],[78,65,77,69],[100,111,110,101],[110,97,109,101,100],[60],[116,104,97,110],[110,97,109,101,100],[60,61],[116,104,97,110],[110,97,109,101,100],[61],[116,104,97,110],[110,97,109,101,100],[33,61],[116,104,97,110],[110,97,109,101,100],[62,61],[116,104,97,110],[110,97,109,101,100],[62],[116,104,97,110],[116,104,97,110],[78,65,77,69],[100,111,110,101],[116,104,97,110],[78,85,77,66,69,82],[100,111,110,101],[100,111,110,101],[111,114],[102,97,99,116],[100,111,110,101],[97,110,100],[102,97,99,116],[100,111,110,101],[41],[100,111,110,101],[100,111,110,101],[59],[108,105,110,101]]
def xT(st cl:Bs):Nat->Nat->Bs
 | 0,_=>[]
 | n+1,i=>if vA.getD (i*3) []=st/\vA.getD (i*3+1) []=cl then vA.getD (i*3+2) [] else xT st cl n (i+1)
def kX:Bs:=[108,105,110,101]
def uN:Bs:=[110,97,109,101,100]
def qB:Bs:=[100,111,110,101]
def vK:Bs:=[111,114]
def yL:Bs:=[97,110,100]
def vD:Bs:=[41]
def yW:Bs:=[40]
def qH:Bs:=[59]
def zT(st cl:Bs)(op:Int):Bs :=
 let st':=if st=uN/\(cl=vK\/cl=yL\/cl=vD\/cl=qH) then qB else st
 if st'=qB/\(cl=vD/\op=0\/cl=qH/\0<op) then [] else xT st' cl 43 0
theorem jJ{st cl:Bs}{i:Nat}(h:i<43)(h1:vA.getD (i*3) []=st)(h2:vA.getD (i*3+1) []=cl):xT st cl (43-i) i=vA.getD (i*3+2) []:=by
 rw[show 43-i=(42-i)+1 by omega,xT,if_pos ⟨h1,h2⟩]
theorem xO{st cl:Bs}{i:Nat}(h:i<43)(h1:¬(vA.getD (i*3) []=st/\vA.getD (i*3+1) []=cl)):xT st cl (43-i) i=xT st cl (43-(i+1)) (i+1):=by
 rw[show 43-i=(42-i)+1 by omega,xT,if_neg h1,show 43-(i+1)=42-i by omega]
theorem jK{st cl:Bs}{i:Nat}(h:¬i<43):xT st cl (43-i) i=[]:=by
 rw[show 43-i=0 by omega,xT]
def kR(len:Int):List (Nat × Bs)->Bs->Int->Int
 | [],st,_=>if st=kX then -1 else len
 | t::r,st,op=>if zT st (zX t.2) op=[] then (t.1:Int) else kR len r (zT st (zX t.2) op) (if zX t.2=yW then op+1 else if zX t.2=vD then op-1 else op)
def tL(l:Bs):Int:=kR l.length (zP l 0) kX 0
theorem zO(ts:List (Nat × Bs))(k:Nat)(h:k<ts.length):ts.drop k=ts.getD k (0,[])::ts.drop (k+1):=by
 rw[List.drop_eq_getElem_cons h];simp[List.getD,h]
open Go.RowKit
theorem yA{k:IntKind}{a b:Int}(h:a=b):Ending.returned (.int k a)=.returned (.int k b):=by rw[h]
theorem zE{a b:Bool}(h:a=b):Ending.returned (.bool a)=.returned (.bool b):=by rw[h]
theorem Vj(c:Int)(w:World) :
 Calls Tryz.prog 146 #[.int .u8 c] w fun e w'=>e=.returned (.bool (aE c))/\w'=w:=by
 go_enter Tryz.func146,Tryz.ntmps146
 go_wp2
 all_goals (go_ret;exact⟨zE (by simp[aE, *]),rfl⟩)
theorem JN(c:Int)(w:World) :
 Calls Tryz.prog 206 #[.int .u8 c] w fun e w'=>e=.returned (.bool (gI c))/\w'=w:=by
 go_enter Tryz.func206,Tryz.ntmps206
 go_wp2
 all_goals (go_ret;exact⟨zE (by simp[gI];try omega),rfl⟩)
theorem Vh(c:Int)(w:World) :
 Calls Tryz.prog 208 #[.int .u8 c] w fun e w'=>e=.returned (.bool (aD c))/\w'=w:=by
 go_enter Tryz.func208,Tryz.ntmps208
 go_wp2
 all_goals (go_ret;exact⟨zE (by simp[aD];try omega),rfl⟩)
theorem z6(c:Int)(w:World) :
 Calls Tryz.prog 173 #[.int .u8 c] w fun e w'=>e=.returned (.int .i64 (tQ c))/\w'=w:=by
 by_cases h1:97<=c/\c<=122
 ·rw[zA1 h1];obtain⟨_,_⟩:=h1
  go_enter Tryz.func173,Tryz.ntmps173
  go_wp2
  all_goals (go_ret;exact⟨rfl,rfl⟩)
 ·by_cases h2:48<=c/\c<=57
  ·rw[zA0 h2];obtain⟨_,_⟩:=h2;clear h1
   go_enter Tryz.func173,Tryz.ntmps173
   go_wp2
   all_goals (go_ret;exact⟨rfl,rfl⟩)
  ·by_cases h3:c=32\/c=10
   ·rw[jz h3]
    rcases h3 with rfl|rfl <;> clear h1 h2
    all_goals
     go_enter Tryz.func173,Tryz.ntmps173
     go_wp2
     go_ret;exact⟨rfl,rfl⟩
   ·rw[zA2 h1 h2 h3]
    have e1:(c==32)=false:=by simp;omega
    have e2:(c==10)=false:=by simp;omega
    clear h3
    go_enter Tryz.func173,Tryz.ntmps173
    go_wp2
    all_goals (go_ret;exact⟨rfl,rfl⟩)
theorem dX(l s:Bs)(w:World)(hl:l.length<=4000) :
 Calls Tryz.prog 180 #[.string ⟨l.toArray⟩,.string ⟨s.toArray⟩] w fun e w'=>e=.returned (.bool (xR l s))/\w'=w:=by
 go_enter Tryz.func180,Tryz.ntmps180
 go_wp2
 go_loop [5,6] (fun av iv=>∃a k:Nat,a<=k/\k<=l.length+1/\av=.int .i64 a/\iv=.int .i64 k/\Hid (JY l s (l.length+1-k) a k=xR l s)) (fun _ iv=>l.length+1-(intOf iv).toNat)
 case atStart=>exact⟨0,0,Nat.le_refl _,Nat.zero_le _,rfl,rfl,rfl⟩
 case round =>
  obtain⟨a,k,hak,hk,rfl,rfl,hH⟩:=hrel;by_cases zFY:k<=l.length
  ·by_cases he:k=l.length\/l.getD k 0=32
   ·by_cases h2:(l.drop a).take (k-a)=s
    ·have H:=hH.out;rw[zC6 zFY he h2]at H
     have HF:Hid (xR l s=true):=H.symm;have h3:(((ByteArray.mk l.toArray).extract a k).toList==s)=true:=by rw[ByteArray.extract_mk];simpa using h2
     rcases he with he|he
     ·clear hH H h2;subst he
      go_wp2
      go_ret;exact⟨zE HF.out.symm,rfl⟩
     ·by_cases he0:k=l.length
      ·clear hH H h2 he;subst he0
       go_wp2
       go_ret;exact⟨zE HF.out.symm,rfl⟩
      have zGS:k<l.length:=by omega
      have he1:((k:Int)==(l.length:Int))=false:=by simp;omega
      have hc:∀h,(((ByteArray.mk l.toArray)[k]'h).toNat:Int)=32:=by intro h;rw[oQ,he];rfl
      clear hH H h2 he he0
      go_wp2
      all_goals (go_ret;exact⟨zE HF.out.symm,rfl⟩)
    ·have H:=hH.out;rw[kj zFY he h2]at H
     have HF:Hid (JY l s (l.length+1-(k+1)) (k+1) (k+1)=xR l s):=H;have h3:(((ByteArray.mk l.toArray).extract a k).toList==s)=false:=by rw[ByteArray.extract_mk];simpa using h2
     by_cases he0:k=l.length
     ·clear hH H h2 he;subst he0
      go_wp2
      go_round
      case rel=>exact⟨l.length+1,l.length+1,by omega,by omega,by go_num,by go_num,HF.out⟩
      case measure=>simp[intOf]
     ·have he:l.getD k 0=32:=by rcases he with he|he;exact absurd he he0;exact he
      have zGS:k<l.length:=by omega
      have he1:((k:Int)==(l.length:Int))=false:=by simp;omega
      have hc:∀h,(((ByteArray.mk l.toArray)[k]'h).toNat:Int)=32:=by intro h;rw[oQ,he];rfl
      clear hH H h2 he he0
      go_wp2
      go_round
      case rel=>exact⟨k+1,k+1,by omega,by omega,by go_num,by go_num,HF.out⟩
      case measure=>simp[intOf];omega
   ·have H:=hH.out;rw[zEO zFY he]at H
    have HF:Hid (JY l s (l.length+1-(k+1)) a (k+1)=xR l s):=H;have zGS:k<l.length:=by omega
    have he1:((k:Int)==(l.length:Int))=false:=by simp;omega
    have hc:∀h,((((ByteArray.mk l.toArray)[k]'h).toNat:Int)==32)=false:=by
     intro h;rw[oQ];rw[Bool.eq_false_iff];intro hh;exact he (.inr ((YE _ 32).1 hh))
    clear hH H he
    go_wp2
    go_round
    case rel=>exact⟨a,k+1,by omega,by omega,by go_num,by go_num,HF.out⟩
    case measure=>simp[intOf];omega
  ·have H:=hH.out;rw[zC7 zFY]at H
   have HF:Hid (xR l s=false):=H.symm;clear hH H
   go_wp2
   go_ret;exact⟨zE HF.out.symm,rfl⟩
theorem oR(l:Bs)(k:Nat)(h:k<(ByteArray.mk l.toArray).size):(((ByteArray.mk l.toArray)[k]'h).toNat:Int)=((l.getD k 0).toNat:Int):=by rw[oQ]
theorem kJ(c k:Int)(h:tQ c=k)(w:World) :
 Calls Tryz.prog 173 #[.int .u8 c] w fun e w'=>e=.returned (.int .i64 k)/\w'=w:=by
 subst h;exact z6 c w
theorem oD(l s:Bs)(b:Bool)(hb:xR l s=b)(w:World)(hl:l.length<=4000) :
 Calls Tryz.prog 180 #[.string ⟨l.toArray⟩,.string ⟨s.toArray⟩] w fun e w'=>e=.returned (.bool b)/\w'=w:=by
 subst hb;exact dX l s w hl
theorem CY{l:Bs}{k:Int}(h:so (l.getD 0 0)=k):∀h:0<l.length,tQ ((l[0]'h).toNat:Int)=k:=by
 intro h0;rw[<-h];simp[so,List.getD,h0]
theorem zCU{l:Bs}{k:Int}{i:Nat}(h:so (l.getD i 0)=k):∀h:i<(ByteArray.mk l.toArray).size,tQ (((ByteArray.mk l.toArray)[i]'h).toNat:Int)=k:=by
 intro h0;rw[<-h,oQ];rfl
theorem KV(l:Bs)(w:World)(h0:0<l.length)(hl:l.length<=4000) :
 Calls Tryz.prog 172 #[.string ⟨l.toArray⟩] w fun e w'=>e=.returned (.int .i64 (vX l:Nat))/\w'=w:=by
 obtain⟨k,hk⟩:∃k,so (l.getD 0 0)=k:=⟨_,rfl⟩;have HK:Hid (∀h:0<l.length,tQ ((l[0]'h).toNat:Int)=k):=CY hk;by_cases hz:k=0
 ·subst hz
  by_cases h2:1<l.length
  ·cases ha:xR lH (l.take 2)
   ·have HF:Hid (vX l=1):=by unfold Hid vX;rw[if_pos hk,if_neg (by simp[Ks,h2,ha])]
    have HA:Hid (xR lH (l.take 2)=false):=ha;clear ha hk
    go_enter Tryz.func172,Tryz.ntmps172
    go_wp2_with (first
     | (go_at_call 173;refine(kJ _ 0 (HK.out h0) _).mono ?_;rintro e w' ⟨rfl,rfl⟩)
     | (go_at_call 180;(try rw[ByteArray.extract_mk]);refine(oD lH (l.take 2) false HA.out _ (by decide)).mono ?_;rintro e w' ⟨rfl,rfl⟩))
    go_ret;exact⟨yA (by rw[HF.out];rfl),rfl⟩
   ·have HF:Hid (vX l=2):=by unfold Hid vX;rw[if_pos hk,if_pos (by simp[Ks,h2,ha])]
    have HA:Hid (xR lH (l.take 2)=true):=ha;clear ha hk
    go_enter Tryz.func172,Tryz.ntmps172
    go_wp2_with (first
     | (go_at_call 173;refine(kJ _ 0 (HK.out h0) _).mono ?_;rintro e w' ⟨rfl,rfl⟩)
     | (go_at_call 180;(try rw[ByteArray.extract_mk]);refine(oD lH (l.take 2) true HA.out _ (by decide)).mono ?_;rintro e w' ⟨rfl,rfl⟩))
    go_ret;exact⟨yA (by rw[HF.out];rfl),rfl⟩
  ·have HF:Hid (vX l=1):=by unfold Hid vX;rw[if_pos hk,if_neg (by simp[Ks,h2])]
   clear hk
   go_enter Tryz.func172,Tryz.ntmps172
   go_wp2_with (go_at_call 173;refine(kJ _ 0 (HK.out h0) _).mono ?_;rintro e w' ⟨rfl,rfl⟩)
   go_ret;exact⟨yA (by rw[HF.out];rfl),rfl⟩
 ·have HF:Hid (vX l=1+jX k (l.drop 1)):=by unfold Hid vX;rw[if_neg (by rw[hk];exact hz),hk]
  have hz':(k==0)=false:=by simp[hz]
  clear hk hz
  go_enter Tryz.func172,Tryz.ntmps172
  go_wp2_with (go_at_call 173;refine(kJ _ k (HK.out h0) _).mono ?_;rintro e w' ⟨rfl,rfl⟩)
  go_loop [4] (fun nv=>∃i:Nat,1<=i/\i<=l.length/\nv=.int .i64 i/\Hid (i+jX k (l.drop i)=1+jX k (l.drop 1))) (fun nv=>l.length-(intOf nv).toNat)
  case atStart=>exact⟨1,Nat.le_refl _,h0,rfl,rfl⟩
  case round =>
   obtain⟨i,h1,hi,rfl,HI⟩:=hrel;by_cases zFY:i<l.length
   ·obtain⟨q,hq⟩:∃q,so (l.getD i 0)=q:=⟨_,rfl⟩
    have HQ:Hid (∀h:i<(ByteArray.mk l.toArray).size,tQ (((ByteArray.mk l.toArray)[i]'h).toNat:Int)=q):=zCU hq;by_cases he:q=k
    ·subst he
     have HN:Hid ((i+1)+jX q (l.drop (i+1))=1+jX q (l.drop 1)):=by have:=HI.out;rw[Jy zFY hq]at this;exact this
     clear hq HI
     go_wp2_with (go_at_call 173;refine(kJ _ q (HQ.out _) _).mono ?_;rintro e w' ⟨rfl,rfl⟩)
     go_round
     case rel=>exact⟨i+1,by omega,by omega,by go_num,HN.out⟩
     case measure=>simp[intOf];omega
    ·have HN:Hid (vX l=i):=by have:=HI.out;rw[YU zFY (by rw[hq];exact he)]at this;unfold Hid;rw[HF.out];omega
     have he':(q==k)=false:=by simp[he]
     clear hq HI he
     go_wp2_with (go_at_call 173;refine(kJ _ q (HQ.out _) _).mono ?_;rintro e w' ⟨rfl,rfl⟩)
     go_ret;exact⟨yA (by rw[HN.out]),rfl⟩
   ·have HN:Hid (vX l=i):=by have:=HI.out;rw[YV zFY]at this;unfold Hid;rw[HF.out];omega
    clear HI;go_wp2_with fail
    go_ret;exact⟨yA (by rw[HN.out]),rfl⟩
theorem yX{a b:Bs}(h:a=b):Ending.returned (.string ⟨a.toArray⟩)=.returned (.string ⟨b.toArray⟩):=by rw[h]
theorem zBB{l:Bs}{c:UInt8}(h:l.getD 0 0=c):∀h:0<l.length,(((l[0]'h).toNat:Int))=(c.toNat:Int):=by
 intro h0;rw[<-h];simp[List.getD,h0]
theorem Gi(l:Bs)(w:World)(h0:0<l.length)(hl:l.length<=4000) :
 Calls Tryz.prog 174 #[.string ⟨l.toArray⟩] w fun e w'=>e=.returned (.string ⟨(zX l).toArray⟩)/\w'=w:=by
 obtain⟨k,hk⟩:∃k,so (l.getD 0 0)=k:=⟨_,rfl⟩;have HK:Hid (∀h:0<l.length,tQ ((l[0]'h).toNat:Int)=k):=CY hk;by_cases h1:k=1
 ·subst h1
  by_cases h8:8<l.length
  ·have HF:Hid (zX l=Yw):=by unfold Hid zX;rw[if_pos hk,if_pos h8]
   clear hk
   go_enter Tryz.func174,Tryz.ntmps174
   go_wp2_with (go_at_call 173;refine(kJ _ 1 (HK.out h0) _).mono ?_;rintro e w' ⟨rfl,rfl⟩)
   go_ret;exact⟨yX (by rw[HF.out];rfl),rfl⟩
  ·cases ha:xR pG l
   ·have HF:Hid (zX l=yP):=by unfold Hid zX;rw[if_pos hk,if_neg h8,if_neg (by simp[ha])]
    have HA:Hid (xR pG l=false):=ha;clear hk ha
    go_enter Tryz.func174,Tryz.ntmps174
    go_wp2_with (first
     | (go_at_call 173;refine(kJ _ 1 (HK.out h0) _).mono ?_;rintro e w' ⟨rfl,rfl⟩)
     | (go_at_call 180;refine(oD pG l false HA.out _ (by decide)).mono ?_;rintro e w' ⟨rfl,rfl⟩))
    go_ret;exact⟨yX (by rw[HF.out];rfl),rfl⟩
   ·have HF:Hid (zX l=l):=by unfold Hid zX;rw[if_pos hk,if_neg h8,if_pos ha]
    have HA:Hid (xR pG l=true):=ha;clear hk ha
    go_enter Tryz.func174,Tryz.ntmps174
    go_wp2_with (first
     | (go_at_call 173;refine(kJ _ 1 (HK.out h0) _).mono ?_;rintro e w' ⟨rfl,rfl⟩)
     | (go_at_call 180;refine(oD pG l true HA.out _ (by decide)).mono ?_;rintro e w' ⟨rfl,rfl⟩))
    go_ret;exact⟨yX (by rw[HF.out]),rfl⟩
 ·have h1':(k==1)=false:=by simp[h1]
  by_cases h2:k=2
  ·subst h2
   by_cases h4:4<l.length
   ·have HF:Hid (zX l=Yw):=by unfold Hid zX;rw[if_neg (by rw[hk];decide),if_pos hk,if_pos (.inl h4)]
    clear hk
    go_enter Tryz.func174,Tryz.ntmps174
    go_wp2_with (go_at_call 173;refine(kJ _ 2 (HK.out h0) _).mono ?_;rintro e w' ⟨rfl,rfl⟩)
    go_ret;exact⟨yX (by rw[HF.out];rfl),rfl⟩
   ·by_cases h5:1<l.length
    ·by_cases h6:l.getD 0 0=48
     ·have HF:Hid (zX l=Yw):=by unfold Hid zX;rw[if_neg (by rw[hk];decide),if_pos hk,if_pos (.inr ⟨h5,h6⟩)]
      have h7:∀h,(((ByteArray.mk l.toArray)[0]'h).toNat:Int)=48:=by intro h;rw[oR,h6];rfl
      clear hk
      go_enter Tryz.func174,Tryz.ntmps174
      go_wp2_with (go_at_call 173;refine(kJ _ 2 (by first|exact HK.out h0|(have e1:=HK.out h0;rw[zBB h6 h0]at e1;exact e1)) _).mono ?_;rintro e w' ⟨rfl,rfl⟩)
      go_ret;exact⟨yX (by rw[HF.out];rfl),rfl⟩
     ·have HF:Hid (zX l=zV):=by unfold Hid zX;rw[if_neg (by rw[hk];decide),if_pos hk,if_neg (by intro hh;rcases hh with hh|hh;exact h4 hh;exact h6 hh.2)]
      have h7:∀h,((((ByteArray.mk l.toArray)[0]'h).toNat:Int)==48)=false:=by
       intro h;rw[Bool.eq_false_iff];intro hh;apply h6;rw[oR]at hh;exact(YE _ 48).1 hh
      clear hk
      go_enter Tryz.func174,Tryz.ntmps174
      go_wp2_with (go_at_call 173;refine(kJ _ 2 (HK.out h0) _).mono ?_;rintro e w' ⟨rfl,rfl⟩)
      go_ret;exact⟨yX (by rw[HF.out];rfl),rfl⟩
    ·have HF:Hid (zX l=zV):=by unfold Hid zX;rw[if_neg (by rw[hk];decide),if_pos hk,if_neg (by omega)]
     clear hk
     go_enter Tryz.func174,Tryz.ntmps174
     go_wp2_with (go_at_call 173;refine(kJ _ 2 (HK.out h0) _).mono ?_;rintro e w' ⟨rfl,rfl⟩)
     go_ret;exact⟨yX (by rw[HF.out];rfl),rfl⟩
  ·have h2':(k==2)=false:=by simp[h2]
   cases ha:xR lU l
   ·have HF:Hid (zX l=Yw):=by unfold Hid zX;rw[if_neg (by rw[hk];exact h1),if_neg (by rw[hk];exact h2),if_neg (by simp[ha])]
    have HA:Hid (xR lU l=false):=ha;clear hk ha h1 h2
    go_enter Tryz.func174,Tryz.ntmps174
    go_wp2_with (first
     | (go_at_call 173;refine(kJ _ k (HK.out h0) _).mono ?_;rintro e w' ⟨rfl,rfl⟩)
     | (go_at_call 180;refine(oD lU l false HA.out _ (by decide)).mono ?_;rintro e w' ⟨rfl,rfl⟩))
    go_ret;exact⟨yX (by rw[HF.out];rfl),rfl⟩
   ·have HF:Hid (zX l=l):=by unfold Hid zX;rw[if_neg (by rw[hk];exact h1),if_neg (by rw[hk];exact h2),if_pos ha]
    have HA:Hid (xR lU l=true):=ha;clear hk ha h1 h2
    go_enter Tryz.func174,Tryz.ntmps174
    go_wp2_with (first
     | (go_at_call 173;refine(kJ _ k (HK.out h0) _).mono ?_;rintro e w' ⟨rfl,rfl⟩)
     | (go_at_call 180;refine(oD lU l true HA.out _ (by decide)).mono ?_;rintro e w' ⟨rfl,rfl⟩))
    go_ret;exact⟨yX (by rw[HF.out]),rfl⟩
end Go.Proofs.YtnbpdffdnphbeaaGreatDoor
