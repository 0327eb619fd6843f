import Derived.Laws.Strings2
import Derived.Test.YtnbpdffdnphbeabGreatDoorProg
import Derived.WalkKit
import Derived.WalkSpells
import Derived.WalkLawsBesides
set_option maxHeartbeats 400000
namespace Go.Proofs.YtnbpdffdnphbeabGreatDoor
open Go.RowKit
theorem j1:∀(n:Nat),n<=n:=@Nat.le_refl
theorem tb:∀{c:Prop}{_:Decidable c},¬c->∀{α:Sort _}{t e:α},(if c then t else e)=e:=@if_neg
theorem tg:∀(B:Nat) (w:World),Below B w w:=@Below.refl
theorem tj:∀{n m k:Nat},n < m->m<=k->n < k:=@Nat.lt_of_lt_of_le
theorem tl:∀{c:Prop}{_:Decidable c},c->∀{α:Sort _}{t e:α},(if c then t else e)=t:=@if_pos
theorem tm:∀{α:Type _}{as1 bs:List α},(as1++bs).length=as1.length+bs.length:=@List.length_append
theorem tr:∀(w:World) (g i:Nat) (cs:Array Value) (t:TypeId) (v:Value),w.heap[g]?=some (Obj.cells cs t)->(w.setCell { block := g,off := i } v).heap[g]?=some (Obj.cells (cs.setIfInBounds i v) t):=@heap_setCell_same
theorem tu:∀{p:Prop} [Decidable p],p->decide p=true:=@decide_eq_true
theorem ty:∀{p:Prop} [Decidable p],¬p->decide p=false:=@decide_eq_false
theorem p7:∀(n:Nat),0<=n:=@Nat.zero_le
theorem p8:∀{n m k:Nat},n<=m->m<=k->n<=k:=@Nat.le_trans
theorem p9:∀{α:Type _}{β:Type _}{b:β}{f:α->β}{l:List α},b∈List.map f l↔∃ (a:α),a∈l/\f a=b:=@List.mem_map
theorem pb:∀{α:Type _}{l:List α}{i:Nat} (_:i < l.length),l[i]?=some l[i]:=@List.getElem?_eq_getElem
theorem pd:∀{α:Type _}{l:List α}{i:Nat}{a:α},l.getD i a=l[i]?.getD a:=@List.getD_eq_getElem?_getD
theorem pe:∀{P:Program}{fn:Func}{R:Ending->World->Prop}{a:Act}{w:World}{v:Value},Sem.run P (results fn a.tmps) w=Result.ok v w->a.defers=[]->R (Ending.returned v) w->bodyPost P fn R Exit.ret a w:=@bodyPost_ret
theorem pf:∀{α:Type _}{a:α}{as1:List α},(a::as1).length=as1.length+1:=@List.length_cons
theorem ph:∀{n m:Nat},n < m->n<=m:=@Nat.le_of_lt
theorem pi:∀{α:Type _}{β:Type _}{as1:List α} (f:α->β),(List.map f as1).length=as1.length:=@List.length_map
theorem pj:∀{B:Nat}{a w:World},Below B a w->Below B a w.drew:=@Below.drew
theorem pm:∀{α:Type _}{as1:List α}{i:Nat},as1.length<=i->List.drop i as1=[]:=@List.drop_eq_nil_of_le
theorem po:∀{α:Type _}{i:Nat}{l:List α} (_:i < l.length),List.drop i l=l[i]::List.drop (i+1) l:=@List.drop_eq_getElem_cons
theorem pq:∀(a b:Bool),((a && b)=true)=(a=true/\b=true):=@Bool.and_eq_true
theorem pr:∀{α:Type _}{a b:α},a∈[b]↔a=b:=@List.mem_singleton
theorem pt:∀{α:Type _} (as1 bs cs:List α),as1++bs++cs=as1++(bs++cs):=@List.append_assoc
theorem pu:∀{α:Type _}{a:α}{s t:List α},a∈s++t↔a∈s\/a∈t:=@List.mem_append
theorem pw:∀{p:Prop} [Decidable p],(decide p=true)=p:=@decide_eq_true_eq
theorem py:∀{m n:Nat},m∈List.range n↔m < n:=@List.mem_range
theorem ma:∀(w:World) (a:Addr) (k:Nat) (v:Value),k≠a.block->(w.setCell a v).heap[k]?=w.heap[k]?:=@heap_setCell_other
theorem mc:∀{α:Type _}{i:Nat}{xs:Array α},xs.size<=i->xs[i]?=none:=@Array.getElem?_eq_none
theorem md:∀(n m:Nat),n < m\/n≥m:=@Nat.lt_or_ge
theorem me:∀{α:Type _}{p:α->Bool}{l:List α},l.any p=true↔∃ (x:α),x∈l/\p x=true:=@List.any_eq_true
theorem mh:∀{α:Type _}{a:α},[a].length=1:=@List.length_singleton
theorem mj:∀{α:Type _}{p:α->Bool}{as1:List α}{x:α},x∈List.filter p as1↔x∈as1/\p x=true:=@List.mem_filter
theorem ml:∀(n k:Nat),n<=n+k:=@Nat.le_add_right
theorem mq:∀{α:Type _} [BEq α] [LawfulBEq α] {a b:α},(a == b)=false↔a≠b:=@beq_eq_false_iff_ne
theorem ms:∀{α:Type _}{l₁ l₂:List α}{i:Nat},i < l₁.length->(l₁++l₂)[i]?=l₁[i]?:=@List.getElem?_append_left
theorem mt:∀{α:Type _} (as1:List α),as1++[]=as1:=@List.append_nil
theorem mu:∀{α:Type _} (y:α) {a:α}{l:List α},a∈l->a∈y::l:=@List.mem_cons_of_mem
theorem mw:∀(n:Nat),n<=n.succ:=@Nat.le_succ
theorem my:∀{α:Type _}{l:List α},l.length=0->l=[]:=@List.eq_nil_of_length_eq_zero
theorem mz:∀(b:Bool),(true && b)=b:=@Bool.true_and
theorem l6:∀{α:Type _}{b:α}{l:List α}{a:α},a∈b::l↔a=b\/a∈l:=@List.mem_cons
theorem l8:∀(n:Nat),n < n.succ:=@Nat.lt_succ_self
theorem l9:∀(n:Nat),n+0=n:=@Nat.add_zero
theorem ld:∀{α:Type _} (val val_1:α),(some val=some val_1)=(val=val_1):=@Option.some.injEq
theorem lh:∀(a:Int),a<=a:=@Int.le_refl
theorem li:∀(w:World) (o:Obj) (k:Nat),k < w.heap.size->(w.alloc o).heap[k]?=w.heap[k]?:=@Below.heap_alloc
theorem lj:∀{α:Type _}{l₁ l₂:List α}{i:Nat},l₁.length<=i->(l₁++l₂)[i]?=l₂[i - l₁.length]?:=@List.getElem?_append_right
theorem lk:∀(w:World) (a:Addr) (u:Value) (k:Nat),k≠a.block->(w.setCell a u).heap[k]?=w.heap[k]?:=@Below.heap_setCell
theorem lq:∀{n:Nat},List.range n.succ=List.range n++[n]:=@List.range_succ
theorem lu:∀{α:Type _}{β:Type _}{xs ys:List α}{f:α->List β},List.flatMap f (xs++ys)=List.flatMap f xs++List.flatMap f ys:=@List.flatMap_append
theorem ly:∀(w:World) (base:Nat) (e:TypeId) (size:Nat),w.ownsRow base e size (Value.slice none 0 0) 0 []:=@World.ownsRow_nil
theorem ba:∀(a b:Bool),((a || b)=true)=(a=true\/b=true):=@Bool.or_eq_true
theorem bf:∀(b:Bool),(false || b)=b:=@Bool.false_or
theorem bg:∀{α:Type _}{xs:List α}{i:Nat},xs.toArray[i]?=xs[i]?:=@List.getElem?_toArray
theorem bh:∀{α:Type _}{β:Type _}{x:α}{xs:List α}{f:α->List β},List.flatMap f (x::xs)=f x++List.flatMap f xs:=@List.flatMap_cons
theorem bi:∀{α:Type _}{β:Type _}{f:α->β}{l₁ l₂:List α},List.map f (l₁++l₂)=List.map f l₁++List.map f l₂:=@List.map_append
theorem bj:∀{α:Type _}{β:Type _}{f:α->List β}{b:β}{l:List α},b∈List.flatMap f l↔∃ (a:α),a∈l/\b∈f a:=@List.mem_flatMap
theorem bm:∀{w w':World}{a:Addr},w'.heap[a.block]?=w.heap[a.block]?->w'.cell? a=w.cell? a:=@World.cell?_of_block
theorem bp:∀{x y:Bool},(x || y)=false↔x=false/\y=false:=@Bool.or_eq_false_iff
theorem bq:∀{p:Prop} [Decidable p],decide p=true↔p:=@decide_eq_true_iff
theorem bt:∀{n:Nat}{α:Type _}{a:α}{i:Nat},(List.replicate n a)[i]?=if i < n then some a else none:=@List.getElem?_replicate
theorem bw:∀{α:Type _}{l:List α},List.take l.length l=l:=@List.take_length
theorem cb:∀{a:Int},0<=a->∃ (n:Nat),a = ↑n:=@Int.eq_ofNat_of_zero_le
theorem cd:∀{α:Type _}{i:Nat}{l:List α},(List.take i l).length=min i l.length:=@List.length_take
theorem ce:∀{p:Prop} [Decidable p],decide p=true->p:=@of_decide_eq_true
theorem cf:∀{α:Type _}{a:α}{as1 bs:List α},a::as1++bs=a::(as1++bs):=@List.cons_append
theorem cg:∀(w:World) (g:Nat) (old cs:Array Value) (t:TypeId) (fr:Nat × Nat),w.heap[g]?=some (Obj.cells old t fr)->(w.setRow g cs).heap[g]?=some (Obj.cells cs t fr):=@setRow_heap
theorem co:∀{α:Type _}{a:α}{i:Nat}{l:List α},(a::l)[i+1]?=l[i]?:=@List.getElem?_cons_succ
theorem cp:∀(b:Bool),(false && b)=false:=@Bool.false_and
theorem cq:∀{α:Type _}{a:α}{l:List α},a∈l->∃ (i:Nat),∃ (_:i < l.length),l[i]=a:=@List.getElem_of_mem
theorem cr:∀(a:Option Addr) (len cap:Nat) (a_1:Option Addr) (len_1 cap_1:Nat),(Value.slice a len cap=Value.slice a_1 len_1 cap_1)=(a=a_1/\len=len_1/\cap=cap_1):=@Value.slice.injEq
theorem ct:∀(a b:Int),a < b\/b<=a:=@Int.lt_or_le
theorem cw:∀{α:Type _}{a:α}{l:List α}{f:α->Bool},(a::l).any f=(f a || l.any f):=@List.any_cons
theorem cx:∀(n:Nat),0+n=n:=@Nat.zero_add
theorem cy:∀{α:Type _}{l:List α}{i:Nat},List.take (i+1) l=List.take i l++l[i]?.toList:=@List.take_add_one
theorem da:∀{α:Type _}{β:Type _}{f:α->β}{a:α}{l:List α},List.map f (a::l)=f a::List.map f l:=@List.map_cons
theorem db:∀{α:Type _} (as1:List α),[]++as1=as1:=@List.nil_append
theorem dc:∀(n m k:Nat),n+m+k=n+(m+k):=@Nat.add_assoc
theorem df:∀{α:Type _}{l:List α}{i j:Nat},(List.take i l)[j]?=if j < i then l[j]? else none:=@List.getElem?_take
theorem dg:∀{α:Type _} (p:α->Bool) (l:List α),(List.filter p l).length<=l.length:=@List.length_filter_le
theorem di:∀{p:Prop}{_:Decidable p},decide p=false↔¬p:=@decide_eq_false_iff_not
theorem dj:∀{α:Type _}{i:Nat}{l:List α},(List.drop i l).length=l.length - i:=@List.length_drop
theorem dk:∀{w w':World}{a:Addr},w'.heap[a.block]?=w.heap[a.block]?->w'.frozen? a=w.frozen? a:=@World.frozen?_of_block
theorem dl:∀{α:Type _}{a:α}{l:List α},(a::l)[0]?=some a:=@List.getElem?_cons_zero
theorem dm:∀{α:Type _}{l:List α}{n:Nat} (_:n < l.length),l[n]∈l:=@List.getElem_mem
theorem dn:∀{a b:Bool},a=b↔(a=true↔b=true):=@Bool.eq_iff_iff
theorem dq:∀{α:Type _}{p:α->Bool} (l₁ l₂:List α),List.filter p (l₁++l₂)=List.filter p l₁++List.filter p l₂:=@List.filter_append
theorem dr:∀{α:Type _}{xs ys:Array α}{i:Nat},xs.size<=i->(xs++ys)[i]?=ys[i - xs.size]?:=@Array.getElem?_append_right
theorem dt:∀{α:Sort _}{_:Decidable True} (t e:α),(if True then t else e)=t:=@if_true
theorem du:∀{α:Type _}{xs:Array α}{i:Nat},xs.toList[i]?=xs[i]?:=@Array.getElem?_toList
theorem dw:∀{α:Type _}{i:Nat}{l:List α},l.length<=i->List.take i l=l:=@List.take_of_length_le
theorem dy:∀{α:Type _}{p:α->Bool}{l:List α},l.any p=false↔∀(x:α),x∈l->¬p x=true:=@List.any_eq_false
theorem dz:∀(n:Nat),0*n=0:=@Nat.zero_mul
theorem fa:∀{α:Type _}{p:α->Bool},List.filter p []=[]:=@List.filter_nil
theorem fd:∀(w:World) (g j:Nat) (cs:Array Value) (t:TypeId) (fr:Nat × Nat),w.heap[g]?=some (Obj.cells cs t fr)->w.cell? { block := g,off := j }=cs[j]?:=@cell_of_row
theorem fe:∀{x y:Bool},(x && y)=false↔x=false\/y=false:=@Bool.and_eq_false_iff
theorem ff:∀{α:Type _}{a:α},¬a∈[]:=@List.not_mem_nil
theorem fg:∀{α:Type _}{a:α}{l:List α}{f:α->Bool},(a::l).all f=(f a && l.all f):=@List.all_cons
theorem fj:∀{α:Type _}{xs ys:Array α}{i:Nat},i < xs.size->(xs++ys)[i]?=xs[i]?:=@Array.getElem?_append_left
theorem fk:∀{a b:Nat},b < a->a≠b:=@Nat.ne_of_gt
theorem fm:∀(n:Nat),n - n=0:=@Nat.sub_self
theorem fq:∀(b:Bool),(true || b)=true:=@Bool.true_or
theorem fw:∀{α:Type _}{l:List α}{i:Nat},l.length<=i->l[i]?=none:=@List.getElem?_eq_none
theorem gb{B:Nat}{w:World}(h:B<=w.heap.size)(o:Obj):Below B w (w.alloc o):=(Below.refl _ _).alloc h o
variable{i:Nat}
def rF(c:Int):Bool:=c==32 || c==10
def dY(c:Int):Bool:=decide (97<=c)&&decide (c<=122)
def rC(c:Int):Bool:=decide (48<=c)&&decide (c<=57)
def Q8(c:Int):Int:=if 97<=c/\c<=122 then 1 else if 48<=c/\c<=57 then 2 else if c=32\/c=10 then 3 else 0
abbrev Bs:=List UInt8
theorem JR(l:Bs)(k:Nat)(h:k<(ByteArray.mk l.toArray).size):(ByteArray.mk l.toArray)[k]=l.getD k 0:=by
 have h':k<l.length:=by have h1:k<l.toArray.size:=h;simpa using h1
 have e:(ByteArray.mk l.toArray)[k]=l.toArray[k]'(by simpa using h'):=rfl;rw[e];simp[List.getD,h']
theorem DJ(c d:UInt8):(((c.toNat:Int)==(d.toNat:Int))=true) ↔ c=d:=by
 rw[beq_iff_eq];constructor
 ·intro h;exact UInt8.toNat_inj.1 (by omega)
 ·intro h;rw[h]
def zJR(l s:Bs):Nat->Nat->Nat->Bool
 | 0,_,_=>false
 | n+1,a,i=>if i=l.length\/l.getD i 0=32 then (if (l.drop a).take (i-a)=s then true else zJR l s n (i+1) (i+1)) else zJR l s n a (i+1)
def lG(l s:Bs):Bool:=zJR l s (l.length+1) 0 0
def so(c:UInt8):Int:=Q8 (c.toNat:Int)
def pS(k:Int):Bs->Nat
 | []=>0
 | c::r=>if so c=k then pS k r+1 else 0
theorem zD8(k:Int)(l:Bs):pS k l<=l.length:=by
 induction l with
 | nil=>simp[pS]
 | cons c r ih=>simp only[pS];split <;> simp <;> omega
theorem Zw(l:Bs)(k:Nat)(h:k<l.length):l.drop k=l.getD k 0::l.drop (k+1):=by
 rw[po h];simp[List.getD,h]
theorem Dd{k:Int}{l:Bs}(h:i<l.length)(he:so (l.getD i 0)=k):i+pS k (l.drop i)=(i+1)+pS k (l.drop (i+1)):=by
 rw[Zw l i h,pS,tl he];omega
theorem KO{k:Int}{l:Bs}(h:i<l.length)(he:¬so (l.getD i 0)=k):i+pS k (l.drop i)=i:=by
 rw[Zw l i h,pS,tb he];omega
theorem KP{k:Int}{l:Bs}(h:¬i<l.length):i+pS k (l.drop i)=i:=by
 rw[pm (by omega)];rfl
def kW:Bs:=[46,46,32,60,61,32,33,61,32,62,61]
def Gk:Bs:=[110,117,109,32,102,108,97,103,32,114,117,108,101,32,111,118,101,114,32,119,104,101,110,32,111,114,32,97,110,100,32,110,111,116,32,104,97,115,32,97,108,119,97,121,115]
def zBN:Bs:=[58,32,61,32,46,46,32,59,32,40,32,41,32,60,32,60,61,32,33,61,32,62,61,32,62,32,43,32,45,32,42]
def UE(l:Bs):Bool:=decide (1<l.length)&&lG kW (l.take 2)
def uT(l:Bs):Nat:=if so (l.getD 0 0)=0 then (if UE l=true then 2 else 1) else 1+pS (so (l.getD 0 0)) (l.drop 1)
theorem Xp(l:Bs):1<=uT l:=by unfold uT;split <;> (try split) <;> omega
theorem zEH{l:Bs}(h:0<l.length):uT l<=l.length:=by
 unfold uT;split
 ·split
  ·rename_i _ h2;simp[UE]at h2;omega
  ·omega
 ·have:=zD8 (so (l.getD 0 0)) (l.drop 1);rw[dj]at this;omega
def zJC:Bs:=[66,65,68]
def Vm:Bs:=[78,65,77,69]
def Dl:Bs:=[78,85,77,66,69,82]
def nZ(l:Bs):Bs :=
 if so (l.getD 0 0)=1 then (if 8<l.length then zJC else if lG Gk l=true then l else Vm)
 else if so (l.getD 0 0)=2 then (if 4<l.length\/1<l.length/\l.getD 0 0=48 then zJC else Dl)
 else if lG zBN l=true then l else zJC
def kE:Nat->Bs->Nat->List (Nat × Bs)
 | 0,_,_=>[]
 | n+1,l,p=>if l.length=0 then [] else if so (l.getD 0 0)=3 then kE n (l.drop 1) (p+1) else (p,l.take (uT l))::kE n (l.drop (uT l)) (p+uT l)
theorem cP(n p:Nat):kE n [] p=[]:=by cases n <;> simp[kE]
theorem dW(n:Nat):∀(m:Nat) (l:Bs) (p:Nat),l.length<=n->l.length<=m->kE n l p=kE m l p:=by
 induction n with
 | zero=>intro m l p h _;have:l=[]:=my (by omega);subst this;rw[cP,cP]
 | succ n ih =>
   intro m l p hn hm
   cases m with
   | zero=>have:l=[]:=my (by omega);subst this;rw[cP,cP]
   | succ m =>
     simp only[kE];split
     ·rfl
     ·have:=Xp l
      rw[ih m (l.drop 1) _ (by simp;omega) (by simp;omega),ih m (l.drop (uT l)) _ (by simp;omega) (by simp;omega)]
def vM(l:Bs)(p:Nat):List (Nat × Bs):=kE l.length (l.drop p) p
theorem UG{l:Bs}{p:Nat}(h:¬p<l.length):vM l p=[]:=by
 unfold vM;rw[pm (by omega),cP]
theorem cE(l:Bs)(p i:Nat):(l.drop p).getD i 0=l.getD (p+i) 0:=by simp[List.getD]
theorem J0{l:Bs}{p:Nat}(h:p<l.length)(hb:so (l.getD p 0)=3):vM l p=vM l (p+1):=by
 unfold vM;rw[dW l.length (l.length+1) (l.drop p) p (by simp) (by simp;omega),kE,tb (by simp;omega),tl (by rw[cE];exact hb),List.drop_drop]
theorem UF{l:Bs}{p:Nat}(h:p<l.length)(hb:¬so (l.getD p 0)=3):vM l p=(p,(l.drop p).take (uT (l.drop p)))::vM l (p+uT (l.drop p)):=by
 unfold vM;rw[dW l.length (l.length+1) (l.drop p) p (by simp) (by simp;omega),kE,tb (by simp;omega),tb (by rw[cE];exact hb),List.drop_drop]
theorem Br(n:Nat):∀(l:Bs) (p:Nat),(kE n l p).length<=l.length:=by
 induction n with
 | zero=>intro l p;simp[kE]
 | succ n ih =>
   intro l p;simp only[kE];split
   ·simp
   ·split
    ·have:=ih (l.drop 1) (p+1);simp at this ⊢;omega
    ·have h1:=ih (l.drop (uT l)) (p+uT l);have h2:=Xp l
     rw[pf];rw[dj]at h1;omega
theorem aJ(l:Bs)(p:Nat):(vM l p).length<=l.length:=by
 have:=Br l.length (l.drop p) p;unfold vM;simp at this;omega
def zIV:List Bs:=[[108,105,110,101],[110,117,109],[110,117,109],[110,117,109],[78,65,77,69],[102,114,111,109],[102,114,111,109],[78,85,77,66,69,82],[116,111],[116,111],[46,46],[116,105,108,108],[116,105,108,108],[78,85,77,66,69,82],[101,110,100],[108,105,110,101],[102,108,97,103],[108,97,115,116],[108,97,115,116],[78,65,77,69],[101,110,100],[108,105,110,101],[111,118,101,114],[111,118,101,114],[111,118,101,114],[78,65,77,69],[108,97,115,116],[101,110,100],[59],[108,105,110,101],[108,105,110,101],[114,117,108,101],[114,117,108,101],[114,117,108,101],[78,65,77,69],[108,97,98,101,108],[108,97,98,101,108],[58],[99,111,108,111,110],[99,111,108,111,110],[78,65,77,69],[104,101,97,100],[104,101,97,100],[61],[112,97,114,116],[112,97,114,116],[78,65,77,69],[112,97,114,116,101,100],[112,97,114,116],[78,85,77,66,69,82],[99,111,117,110,116,101,100],[99,111,117,110,116,101,100],[42],[116,105,109,101,115],[99,111,117,110,116,101,100],[43],[112,97,114,116],[99,111,117,110,116,101,100],[45],[112,97,114,116],[99,111,117,110,116,101,100],[119,104,101,110],[102,97,99,116],[116,105,109,101,115],[78,65,77,69],[112,97,114,116,101,100],[112,97,114,116,101,100],[43],[112,97,114,116],[112,97,114,116,101,100],[45],[112,97,114,116],[112,97,114,116,101,100],[119,104,101,110],[102,97,99,116],[102,97,99,116],[110,111,116],[102,97,99,116],[102,97,99,116],[40],[102,97,99,116],[102,97,99,116],[97,108,119,97,121,115],[100,111,110,101],[102,97,99,116],[104,97,115],[104,97,115],[102,97,99,116],[78,65,77,69],[110,97,109,101,100],[104,97,115],[78,65,77,69],[100,111,110,101],[110,97,109,101,100],[60],[116,104,97,110],[110,97,109,101,100],[60,61],[116,104,97,110],[110,97,109,101,100],[61],[116,104,97,110],[110,97,109,101,100],[33,61],[116,104,97,110],[110,97,109,101,100],[62,61],[116,104,97,110],[110,97,109,101,100],[62],[116,104,97,110],[116,104,97,110],[78,65,77,69],[100,111,110,101],[116,104,97,110],[78,85,77,66,69,82],[100,111,110,101],[100,111,110,101],[111,114],[102,97,99,116],[100,111,110,101],[97,110,100],[102,97,99,116],[100,111,110,101],[41],[100,111,110,101],[100,111,110,101],[59],[108,105,110,101]]
def zGE(st cl:Bs):Nat->Nat->Bs
 | 0,_=>[]
 | n+1,i=>if zIV.getD (i*3) []=st/\zIV.getD (i*3+1) []=cl then zIV.getD (i*3+2) [] else zGE st cl n (i+1)
def zK1:Bs:=[108,105,110,101]
def zHQ:Bs:=[110,97,109,101,100]
def zG8:Bs:=[100,111,110,101]
def Qi:Bs:=[111,114]
def dR:Bs:=[97,110,100]
def kJ:Bs:=[41]
def vK:Bs:=[40]
def cW:Bs:=[59]
def zGB(st cl:Bs)(op:Int):Bs :=
 let st':=if st=zHQ/\(cl=Qi\/cl=dR\/cl=kJ\/cl=cW) then zG8 else st
 if st'=zG8/\(cl=kJ/\op=0\/cl=cW/\0<op) then [] else zGE st' cl 43 0
def zAB(len:Int):List (Nat × Bs)->Bs->Int->Int
 | [],st,_=>if st=zK1 then -1 else len
 | t::r,st,op=>if zGB st (nZ t.2) op=[] then (t.1:Int) else zAB len r (zGB st (nZ t.2) op) (if nZ t.2=vK then op+1 else if nZ t.2=kJ then op-1 else op)
open Go.RowKit
theorem yP{k:IntKind}{a b:Int}(h:a=b):Ending.returned (.int k a)=.returned (.int k b):=by rw[h]
theorem zF{a b:Bool}(h:a=b):Ending.returned (.bool a)=.returned (.bool b):=by rw[h]
theorem V6(c:Int)(w:World) :
 Calls Tryz.prog 101 #[.int .u8 c] w fun e w'=>e=.returned (.bool (rF c))/\w'=w:=by
 go_enter Tryz.func101,Tryz.ntmps101
 go_wp2
 all_goals (go_ret;exact⟨zF (by simp[rF, *]),rfl⟩)
theorem JN(c:Int)(w:World) :
 Calls Tryz.prog 144 #[.int .u8 c] w fun e w'=>e=.returned (.bool (dY c))/\w'=w:=by
 go_enter Tryz.func144,Tryz.ntmps144
 go_wp2
 all_goals (go_ret;exact⟨zF (by simp[dY];try omega),rfl⟩)
theorem V5(c:Int)(w:World) :
 Calls Tryz.prog 146 #[.int .u8 c] w fun e w'=>e=.returned (.bool (rC c))/\w'=w:=by
 go_enter Tryz.func146,Tryz.ntmps146
 go_wp2
 all_goals (go_ret;exact⟨zF (by simp[rC];try omega),rfl⟩)
theorem iV(l:Bs)(k:Nat)(h:k<(ByteArray.mk l.toArray).size):(((ByteArray.mk l.toArray)[k]'h).toNat:Int)=((l.getD k 0).toNat:Int):=by rw[JR]
theorem jX{a b:Bs}(h:a=b):Ending.returned (.string ⟨a.toArray⟩)=.returned (.string ⟨b.toArray⟩):=by rw[h]
end Go.Proofs.YtnbpdffdnphbeabGreatDoor
