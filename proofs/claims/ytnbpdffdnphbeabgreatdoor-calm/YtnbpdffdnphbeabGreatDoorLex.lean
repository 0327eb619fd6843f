import Derived.Laws.Strings2
import Derived.Test.YtnbpdffdnphbeabGreatDoorProg
import Derived.WalkKit
import Derived.WalkSpells
import Derived.WalkLawsBesides
set_option maxHeartbeats 400000
namespace Go.Proofs.YtnbpdffdnphbeabGreatDoor
open Go.RowKit
theorem j1:∀(n:Nat),n<=n:=@Nat.le_refl
theorem tb:∀{c:Prop}{_:Decidable c},¬c->∀{α:Sort _}{t e:α},(if c then t else e)=e:=@if_neg
theorem tg:∀(B:Nat) (w:World),Below B w w:=@Below.refl
theorem tj:∀{n m k:Nat},n < m->m<=k->n < k:=@Nat.lt_of_lt_of_le
theorem tl:∀{α:Type _}{as1 bs:List α},(as1++bs).length=as1.length+bs.length:=@List.length_append
theorem tm:∀{c:Prop}{_:Decidable c},c->∀{α:Sort _}{t e:α},(if c then t else e)=t:=@if_pos
theorem tq:∀{p:Prop} [Decidable p],¬p->decide p=false:=@decide_eq_false
theorem tr:∀(w:World) (g i:Nat) (cs:Array Value) (t:TypeId) (v:Value),w.heap[g]?=some (Obj.cells cs t)->(w.setCell { block := g,off := i } v).heap[g]?=some (Obj.cells (cs.setIfInBounds i v) t):=@heap_setCell_same
theorem tu:∀{p:Prop} [Decidable p],p->decide p=true:=@decide_eq_true
theorem ty:∀(n:Nat),0<=n:=@Nat.zero_le
theorem p7:∀{n m k:Nat},n<=m->m<=k->n<=k:=@Nat.le_trans
theorem p8:∀{α:Type _}{β:Type _}{b:β}{f:α->β}{l:List α},b∈List.map f l↔∃ (a:α),a∈l/\f a=b:=@List.mem_map
theorem p9:∀{α:Type _}{l:List α}{i:Nat} (_:i < l.length),l[i]?=some l[i]:=@List.getElem?_eq_getElem
theorem pb:∀{P:Program}{fn:Func}{R:Ending->World->Prop}{a:Act}{w:World}{v:Value},Sem.run P (results fn a.tmps) w=Result.ok v w->a.defers=[]->R (Ending.returned v) w->bodyPost P fn R Exit.ret a w:=@bodyPost_ret
theorem pd:∀{α:Type _}{a:α}{as1:List α},(a::as1).length=as1.length+1:=@List.length_cons
theorem pe:∀{α:Type _}{l:List α}{i:Nat}{a:α},l.getD i a=l[i]?.getD a:=@List.getD_eq_getElem?_getD
theorem pf:∀{α:Type _}{as1:List α}{i:Nat},as1.length<=i->List.drop i as1=[]:=@List.drop_eq_nil_of_le
theorem ph:∀{n m:Nat},n < m->n<=m:=@Nat.le_of_lt
theorem pi:∀{α:Type _}{β:Type _}{as1:List α} (f:α->β),(List.map f as1).length=as1.length:=@List.length_map
theorem pj:∀(a b:Bool),((a && b)=true)=(a=true/\b=true):=@Bool.and_eq_true
theorem pm:∀{α:Type _}{i:Nat}{l:List α} (_:i < l.length),List.drop i l=l[i]::List.drop (i+1) l:=@List.drop_eq_getElem_cons
theorem po:∀{B:Nat}{a w:World},Below B a w->Below B a w.drew:=@Below.drew
theorem pq:∀{m n:Nat},m∈List.range n↔m < n:=@List.mem_range
theorem pr:∀{α:Type _} (as1 bs cs:List α),as1++bs++cs=as1++(bs++cs):=@List.append_assoc
theorem pt:∀{p:Prop} [Decidable p],(decide p=true)=p:=@decide_eq_true_eq
theorem pu:∀{α:Type _}{a:α}{s t:List α},a∈s++t↔a∈s\/a∈t:=@List.mem_append
theorem pw:∀{α:Type _}{a b:α},a∈[b]↔a=b:=@List.mem_singleton
theorem py:∀(w:World) (a:Addr) (k:Nat) (v:Value),k≠a.block->(w.setCell a v).heap[k]?=w.heap[k]?:=@heap_setCell_other
theorem ma:∀{α:Type _}{i:Nat}{xs:Array α},xs.size<=i->xs[i]?=none:=@Array.getElem?_eq_none
theorem mc:∀(n m:Nat),n < m\/n≥m:=@Nat.lt_or_ge
theorem md:∀{α:Type _}{p:α->Bool}{l:List α},l.any p=true↔∃ (x:α),x∈l/\p x=true:=@List.any_eq_true
theorem me:∀{α:Type _}{a:α},[a].length=1:=@List.length_singleton
theorem mh:∀{α:Type _} [BEq α] [LawfulBEq α] {a b:α},(a == b)=false↔a≠b:=@beq_eq_false_iff_ne
theorem mj:∀{α:Type _}{p:α->Bool}{as1:List α}{x:α},x∈List.filter p as1↔x∈as1/\p x=true:=@List.mem_filter
theorem ml:∀(n k:Nat),n<=n+k:=@Nat.le_add_right
theorem mq:∀{α:Type _} (as1:List α),as1++[]=as1:=@List.append_nil
theorem ms:∀{α:Type _} (y:α) {a:α}{l:List α},a∈l->a∈y::l:=@List.mem_cons_of_mem
theorem mt:∀{α:Type _}{l₁ l₂:List α}{i:Nat},i < l₁.length->(l₁++l₂)[i]?=l₁[i]?:=@List.getElem?_append_left
theorem mu:∀(b:Bool),(true && b)=b:=@Bool.true_and
theorem mw:∀(n:Nat),n<=n.succ:=@Nat.le_succ
theorem my:∀(n:Nat),n < n.succ:=@Nat.lt_succ_self
theorem mz:∀{α:Type _}{b:α}{l:List α}{a:α},a∈b::l↔a=b\/a∈l:=@List.mem_cons
theorem l6:∀(n:Nat),n+0=n:=@Nat.add_zero
theorem l8:∀(w:World) (o:Obj) (k:Nat),k < w.heap.size->(w.alloc o).heap[k]?=w.heap[k]?:=@Below.heap_alloc
theorem l9:∀(a:Int),a<=a:=@Int.le_refl
theorem ld:∀{α:Type _}{l₁ l₂:List α}{i:Nat},l₁.length<=i->(l₁++l₂)[i]?=l₂[i - l₁.length]?:=@List.getElem?_append_right
theorem lh:∀{n:Nat},List.range n.succ=List.range n++[n]:=@List.range_succ
theorem li:∀{α:Type _}{β:Type _}{xs ys:List α}{f:α->List β},List.flatMap f (xs++ys)=List.flatMap f xs++List.flatMap f ys:=@List.flatMap_append
theorem lj:∀{α:Type _}{l:List α},l.length=0->l=[]:=@List.eq_nil_of_length_eq_zero
theorem lk:∀(w:World) (a:Addr) (u:Value) (k:Nat),k≠a.block->(w.setCell a u).heap[k]?=w.heap[k]?:=@Below.heap_setCell
theorem lq:∀(a b:Bool),((a || b)=true)=(a=true\/b=true):=@Bool.or_eq_true
theorem lu:∀(b:Bool),(false || b)=b:=@Bool.false_or
theorem ly:∀{α:Type _} (val val_1:α),(some val=some val_1)=(val=val_1):=@Option.some.injEq
theorem ba:∀(w:World) (base:Nat) (e:TypeId) (size:Nat),w.ownsRow base e size (Value.slice none 0 0) 0 []:=@World.ownsRow_nil
theorem bf:∀{α:Type _}{β:Type _}{x:α}{xs:List α}{f:α->List β},List.flatMap f (x::xs)=f x++List.flatMap f xs:=@List.flatMap_cons
theorem bg:∀{α:Type _}{β:Type _}{f:α->β}{l₁ l₂:List α},List.map f (l₁++l₂)=List.map f l₁++List.map f l₂:=@List.map_append
theorem bh:∀{α:Type _}{β:Type _}{f:α->List β}{b:β}{l:List α},b∈List.flatMap f l↔∃ (a:α),a∈l/\b∈f a:=@List.mem_flatMap
theorem bi:∀(w:World) (g:Nat) (old cs:Array Value) (t:TypeId) (fr:Nat × Nat),w.heap[g]?=some (Obj.cells old t fr)->(w.setRow g cs).heap[g]?=some (Obj.cells cs t fr):=@setRow_heap
theorem bj:∀{w w':World}{a:Addr},w'.heap[a.block]?=w.heap[a.block]?->w'.cell? a=w.cell? a:=@World.cell?_of_block
theorem bm:∀{α:Type _}{xs:List α}{i:Nat},xs.toArray[i]?=xs[i]?:=@List.getElem?_toArray
theorem bp:∀{x y:Bool},(x || y)=false↔x=false/\y=false:=@Bool.or_eq_false_iff
theorem bq:∀{p:Prop} [Decidable p],decide p=true↔p:=@decide_eq_true_iff
theorem bt:∀{α:Type _}{l:List α},List.take l.length l=l:=@List.take_length
theorem bw:∀{a:Int},0<=a->∃ (n:Nat),a = ↑n:=@Int.eq_ofNat_of_zero_le
theorem cb:∀{p:Prop} [Decidable p],decide p=true->p:=@of_decide_eq_true
theorem cd:∀{α:Type _}{a:α}{as1 bs:List α},a::as1++bs=a::(as1++bs):=@List.cons_append
theorem ce:∀(b:Bool),(false && b)=false:=@Bool.false_and
theorem cf:∀{n:Nat}{α:Type _}{a:α}{i:Nat},(List.replicate n a)[i]?=if i < n then some a else none:=@List.getElem?_replicate
theorem cg:∀{α:Type _}{i:Nat}{l:List α},(List.take i l).length=min i l.length:=@List.length_take
theorem co:∀{α:Type _}{a:α}{i:Nat}{l:List α},(a::l)[i+1]?=l[i]?:=@List.getElem?_cons_succ
theorem cp:∀(a b:Int),a < b\/b<=a:=@Int.lt_or_le
theorem cq:∀(n:Nat),0+n=n:=@Nat.zero_add
theorem cr:∀{α:Type _}{a:α}{l:List α}{f:α->Bool},(a::l).any f=(f a || l.any f):=@List.any_cons
theorem ct:∀{α:Type _}{a:α}{l:List α},a∈l->∃ (i:Nat),∃ (_:i < l.length),l[i]=a:=@List.getElem_of_mem
theorem cw:∀{α:Type _}{l:List α}{i:Nat},List.take (i+1) l=List.take i l++l[i]?.toList:=@List.take_add_one
theorem cx:∀{α:Type _}{l:List α}{n:Nat} (_:n < l.length),l[n]∈l:=@List.getElem_mem
theorem cy:∀(n m k:Nat),n+m+k=n+(m+k):=@Nat.add_assoc
theorem da:∀{α:Type _} (p:α->Bool) (l:List α),(List.filter p l).length<=l.length:=@List.length_filter_le
theorem db:∀{p:Prop}{_:Decidable p},decide p=false↔¬p:=@decide_eq_false_iff_not
theorem dc:∀{w w':World}{a:Addr},w'.heap[a.block]?=w.heap[a.block]?->w'.frozen? a=w.frozen? a:=@World.frozen?_of_block
theorem df:∀{α:Type _}{a:α}{l:List α},(a::l)[0]?=some a:=@List.getElem?_cons_zero
theorem dg:∀{a b:Bool},a=b↔(a=true↔b=true):=@Bool.eq_iff_iff
theorem di:∀{α:Type _} (as1:List α),[]++as1=as1:=@List.nil_append
theorem dj:∀{α:Type _}{xs ys:Array α}{i:Nat},i < xs.size->(xs++ys)[i]?=xs[i]?:=@Array.getElem?_append_left
theorem dk:∀{α:Type _}{p:α->Bool} (l₁ l₂:List α),List.filter p (l₁++l₂)=List.filter p l₁++List.filter p l₂:=@List.filter_append
theorem dl:∀{α:Type _}{xs ys:Array α}{i:Nat},xs.size<=i->(xs++ys)[i]?=ys[i - xs.size]?:=@Array.getElem?_append_right
theorem dm:∀(a:Option Addr) (len cap:Nat) (a_1:Option Addr) (len_1 cap_1:Nat),(Value.slice a len cap=Value.slice a_1 len_1 cap_1)=(a=a_1/\len=len_1/\cap=cap_1):=@Value.slice.injEq
theorem dn:∀{α:Type _}{val val_1:α},some val=some val_1->val=val_1:=@Option.some.inj
theorem dq:∀{α:Type _}{β:Type _}{f:α->β}{a:α}{l:List α},List.map f (a::l)=f a::List.map f l:=@List.map_cons
theorem dr:∀{α:Type _}{i:Nat}{l:List α},(List.drop i l).length=l.length - i:=@List.length_drop
theorem dt:∀{α:Type _}{xs:Array α}{i:Nat},xs.toList[i]?=xs[i]?:=@Array.getElem?_toList
theorem du:∀{α:Type _}{i:Nat}{l:List α},l.length<=i->List.take i l=l:=@List.take_of_length_le
theorem dw:∀{α:Type _}{p:α->Bool}{l:List α},l.any p=false↔∀(x:α),x∈l->¬p x=true:=@List.any_eq_false
theorem dy:∀{α:Type _}{p:α->Bool},List.filter p []=[]:=@List.filter_nil
theorem dz:∀(w:World) (g j:Nat) (cs:Array Value) (t:TypeId) (fr:Nat × Nat),w.heap[g]?=some (Obj.cells cs t fr)->w.cell? { block := g,off := j }=cs[j]?:=@cell_of_row
theorem f8:∀{x y:Bool},(x && y)=false↔x=false\/y=false:=@Bool.and_eq_false_iff
theorem f9:∀{α:Sort _}{_:Decidable True} (t e:α),(if True then t else e)=t:=@if_true
theorem fa:∀{α:Type _}{a:α},¬a∈[]:=@List.not_mem_nil
theorem fd:∀{α:Type _}{a:α}{l:List α}{f:α->Bool},(a::l).all f=(f a && l.all f):=@List.all_cons
theorem fe:∀{a b:Nat},b < a->a≠b:=@Nat.ne_of_gt
theorem ff:∀(n:Nat),n - n=0:=@Nat.sub_self
theorem fg:∀(b:Bool),(true || b)=true:=@Bool.true_or
theorem fj{B:Nat}{w:World}(h:B<=w.heap.size)(o:Obj):Below B w (w.alloc o):=(Below.refl _ _).alloc h o
variable{i:Nat}
def rF(c:Int):Bool:=c==32 || c==10
def dM(c:Int):Bool:=decide (97<=c)&&decide (c<=122)
def rC(c:Int):Bool:=decide (48<=c)&&decide (c<=57)
def Qu(c:Int):Int:=if 97<=c/\c<=122 then 1 else if 48<=c/\c<=57 then 2 else if c=32\/c=10 then 3 else 0
abbrev Bs:=List UInt8
theorem JM(l:Bs)(k:Nat)(h:k<(ByteArray.mk l.toArray).size):(ByteArray.mk l.toArray)[k]=l.getD k 0:=by
 have h':k<l.length:=by have h1:k<l.toArray.size:=h;simpa using h1
 have e:(ByteArray.mk l.toArray)[k]=l.toArray[k]'(by simpa using h'):=rfl;rw[e];simp[List.getD,h']
theorem Dz(c d:UInt8):(((c.toNat:Int)==(d.toNat:Int))=true) ↔ c=d:=by
 rw[beq_iff_eq];constructor
 ·intro h;exact UInt8.toNat_inj.1 (by omega)
 ·intro h;rw[h]
def zJ0(l s:Bs):Nat->Nat->Nat->Bool
 | 0,_,_=>false
 | n+1,a,i=>if i=l.length\/l.getD i 0=32 then (if (l.drop a).take (i-a)=s then true else zJ0 l s n (i+1) (i+1)) else zJ0 l s n a (i+1)
def lD(l s:Bs):Bool:=zJ0 l s (l.length+1) 0 0
def so(c:UInt8):Int:=Qu (c.toNat:Int)
def pS(k:Int):Bs->Nat
 | []=>0
 | c::r=>if so c=k then pS k r+1 else 0
theorem zCB(k:Int)(l:Bs):pS k l<=l.length:=by
 induction l with
 | nil=>simp[pS]
 | cons c r ih=>simp only[pS];split <;> simp <;> omega
theorem Zl(l:Bs)(k:Nat)(h:k<l.length):l.drop k=l.getD k 0::l.drop (k+1):=by
 rw[pm h];simp[List.getD,h]
theorem CK{k:Int}{l:Bs}(h:i<l.length)(he:so (l.getD i 0)=k):i+pS k (l.drop i)=(i+1)+pS k (l.drop (i+1)):=by
 rw[Zl l i h,pS,tm he];omega
theorem KF{k:Int}{l:Bs}(h:i<l.length)(he:¬so (l.getD i 0)=k):i+pS k (l.drop i)=i:=by
 rw[Zl l i h,pS,tb he];omega
theorem KG{k:Int}{l:Bs}(h:¬i<l.length):i+pS k (l.drop i)=i:=by
 rw[pf (by omega)];rfl
def kX:Bs:=[46,46,32,60,61,32,33,61,32,62,61]
def FL:Bs:=[110,117,109,32,102,108,97,103,32,114,117,108,101,32,111,118,101,114,32,119,104,101,110,32,111,114,32,97,110,100,32,110,111,116,32,104,97,115,32,97,108,119,97,121,115]
def zAR:Bs:=[58,32,61,32,46,46,32,59,32,40,32,41,32,60,32,60,61,32,33,61,32,62,61,32,62,32,43,32,45,32,42]
def Uy(l:Bs):Bool:=decide (1<l.length)&&lD kX (l.take 2)
def uU(l:Bs):Nat:=if so (l.getD 0 0)=0 then (if Uy l=true then 2 else 1) else 1+pS (so (l.getD 0 0)) (l.drop 1)
theorem Xf(l:Bs):1<=uU l:=by unfold uU;split <;> (try split) <;> omega
theorem zDI{l:Bs}(h:0<l.length):uU l<=l.length:=by
 unfold uU;split
 ·split
  ·rename_i _ h2;simp[Uy]at h2;omega
  ·omega
 ·have:=zCB (so (l.getD 0 0)) (l.drop 1);rw[dr]at this;omega
def zIH:Bs:=[66,65,68]
def Ve:Bs:=[78,65,77,69]
def CT:Bs:=[78,85,77,66,69,82]
def nU(l:Bs):Bs :=
 if so (l.getD 0 0)=1 then (if 8<l.length then zIH else if lD FL l=true then l else Ve)
 else if so (l.getD 0 0)=2 then (if 4<l.length\/1<l.length/\l.getD 0 0=48 then zIH else CT)
 else if lD zAR l=true then l else zIH
def qY:Nat->Bs->Nat->List (Nat × Bs)
 | 0,_,_=>[]
 | n+1,l,p=>if l.length=0 then [] else if so (l.getD 0 0)=3 then qY n (l.drop 1) (p+1) else (p,l.take (uU l))::qY n (l.drop (uU l)) (p+uU l)
theorem cI(n p:Nat):qY n [] p=[]:=by cases n <;> simp[qY]
theorem dL(n:Nat):∀(m:Nat) (l:Bs) (p:Nat),l.length<=n->l.length<=m->qY n l p=qY m l p:=by
 induction n with
 | zero=>intro m l p h _;have:l=[]:=lj (by omega);subst this;rw[cI,cI]
 | succ n ih =>
   intro m l p hn hm
   cases m with
   | zero=>have:l=[]:=lj (by omega);subst this;rw[cI,cI]
   | succ m =>
     simp only[qY];split
     ·rfl
     ·have:=Xf l
      rw[ih m (l.drop 1) _ (by simp;omega) (by simp;omega),ih m (l.drop (uU l)) _ (by simp;omega) (by simp;omega)]
def vK(l:Bs)(p:Nat):List (Nat × Bs):=qY l.length (l.drop p) p
theorem U0{l:Bs}{p:Nat}(h:¬p<l.length):vK l p=[]:=by
 unfold vK;rw[pf (by omega),cI]
theorem bX(l:Bs)(p i:Nat):(l.drop p).getD i 0=l.getD (p+i) 0:=by simp[List.getD]
theorem Js{l:Bs}{p:Nat}(h:p<l.length)(hb:so (l.getD p 0)=3):vK l p=vK l (p+1):=by
 unfold vK;rw[dL l.length (l.length+1) (l.drop p) p (by simp) (by simp;omega),qY,tb (by simp;omega),tm (by rw[bX];exact hb),List.drop_drop]
theorem Uz{l:Bs}{p:Nat}(h:p<l.length)(hb:¬so (l.getD p 0)=3):vK l p=(p,(l.drop p).take (uU (l.drop p)))::vK l (p+uU (l.drop p)):=by
 unfold vK;rw[dL l.length (l.length+1) (l.drop p) p (by simp) (by simp;omega),qY,tb (by simp;omega),tb (by rw[bX];exact hb),List.drop_drop]
theorem UZ(n:Nat):∀(l:Bs) (p:Nat),(qY n l p).length<=l.length:=by
 induction n with
 | zero=>intro l p;simp[qY]
 | succ n ih =>
   intro l p;simp only[qY];split
   ·simp
   ·split
    ·have:=ih (l.drop 1) (p+1);simp at this ⊢;omega
    ·have h1:=ih (l.drop (uU l)) (p+uU l);have h2:=Xf l
     rw[pd];rw[dr]at h1;omega
theorem aC(l:Bs)(p:Nat):(vK l p).length<=l.length:=by
 have:=UZ l.length (l.drop p) p;unfold vK;simp at this;omega
def zI0:List Bs:=[[108,105,110,101],[110,117,109],[110,117,109],[110,117,109],[78,65,77,69],[102,114,111,109],[102,114,111,109],[78,85,77,66,69,82],[116,111],[116,111],[46,46],[116,105,108,108],[116,105,108,108],[78,85,77,66,69,82],[101,110,100],[108,105,110,101],[102,108,97,103],[108,97,115,116],[108,97,115,116],[78,65,77,69],[101,110,100],[108,105,110,101],[111,118,101,114],[111,118,101,114],[111,118,101,114],[78,65,77,69],[108,97,115,116],[101,110,100],[59],[108,105,110,101],[108,105,110,101],[114,117,108,101],[114,117,108,101],[114,117,108,101],[78,65,77,69],[108,97,98,101,108],[108,97,98,101,108],[58],[99,111,108,111,110],[99,111,108,111,110],[78,65,77,69],[104,101,97,100],[104,101,97,100],[61],[112,97,114,116],[112,97,114,116],[78,65,77,69],[112,97,114,116,101,100],[112,97,114,116],[78,85,77,66,69,82],[99,111,117,110,116,101,100],[99,111,117,110,116,101,100],[42],[116,105,109,101,115],[99,111,117,110,116,101,100],[43],[112,97,114,116],[99,111,117,110,116,101,100],[45],[112,97,114,116],[99,111,117,110,116,101,100],[119,104,101,110],[102,97,99,116],[116,105,109,101,115],[78,65,77,69],[112,97,114,116,101,100],[112,97,114,116,101,100],[43],[112,97,114,116],[112,97,114,116,101,100],[45],[112,97,114,116],[112,97,114,116,101,100],[119,104,101,110],[102,97,99,116],[102,97,99,116],[110,111,116],[102,97,99,116],[102,97,99,116],[40],[102,97,99,116],[102,97,99,116],[97,108,119,97,121,115],[100,111,110,101],[102,97,99,116],[104,97,115],[104,97,115],[102,97,99,116],[78,65,77,69],[110,97,109,101,100],[104,97,115],[78,65,77,69],[100,111,110,101],[110,97,109,101,100],[60],[116,104,97,110],[110,97,109,101,100],[60,61],[116,104,97,110],[110,97,109,101,100],[61],[116,104,97,110],[110,97,109,101,100],[33,61],[116,104,97,110],[110,97,109,101,100],[62,61],[116,104,97,110],[110,97,109,101,100],[62],[116,104,97,110],[116,104,97,110],[78,65,77,69],[100,111,110,101],[116,104,97,110],[78,85,77,66,69,82],[100,111,110,101],[100,111,110,101],[111,114],[102,97,99,116],[100,111,110,101],[97,110,100],[102,97,99,116],[100,111,110,101],[41],[100,111,110,101],[100,111,110,101],[59],[108,105,110,101]]
def zFK(st cl:Bs):Nat->Nat->Bs
 | 0,_=>[]
 | n+1,i=>if zI0.getD (i*3) []=st/\zI0.getD (i*3+1) []=cl then zI0.getD (i*3+2) [] else zFK st cl n (i+1)
def zJ7:Bs:=[108,105,110,101]
def zGW:Bs:=[110,97,109,101,100]
def zFD:Bs:=[100,111,110,101]
def XY:Bs:=[111,114]
def dE:Bs:=[97,110,100]
def kI:Bs:=[41]
def vI:Bs:=[40]
def cP:Bs:=[59]
def zFG(st cl:Bs)(op:Int):Bs :=
 let st':=if st=zGW/\(cl=XY\/cl=dE\/cl=kI\/cl=cP) then zFD else st
 if st'=zFD/\(cl=kI/\op=0\/cl=cP/\0<op) then [] else zFK st' cl 43 0
def ja(len:Int):List (Nat × Bs)->Bs->Int->Int
 | [],st,_=>if st=zJ7 then -1 else len
 | t::r,st,op=>if zFG st (nU t.2) op=[] then (t.1:Int) else ja len r (zFG st (nU t.2) op) (if nU t.2=vI then op+1 else if nU t.2=kI then op-1 else op)
open Go.RowKit
theorem yQ{k:IntKind}{a b:Int}(h:a=b):Ending.returned (.int k a)=.returned (.int k b):=by rw[h]
theorem zF{a b:Bool}(h:a=b):Ending.returned (.bool a)=.returned (.bool b):=by rw[h]
theorem Vz(c:Int)(w:World) :
 Calls Tryz.prog 101 #[.int .u8 c] w fun e w'=>e=.returned (.bool (rF c))/\w'=w:=by
 go_enter Tryz.func101,Tryz.ntmps101
 go_wp2
 all_goals (go_ret;exact⟨zF (by simp[rF, *]),rfl⟩)
theorem JH(c:Int)(w:World) :
 Calls Tryz.prog 144 #[.int .u8 c] w fun e w'=>e=.returned (.bool (dM c))/\w'=w:=by
 go_enter Tryz.func144,Tryz.ntmps144
 go_wp2
 all_goals (go_ret;exact⟨zF (by simp[dM];try omega),rfl⟩)
theorem Vy(c:Int)(w:World) :
 Calls Tryz.prog 146 #[.int .u8 c] w fun e w'=>e=.returned (.bool (rC c))/\w'=w:=by
 go_enter Tryz.func146,Tryz.ntmps146
 go_wp2
 all_goals (go_ret;exact⟨zF (by simp[rC];try omega),rfl⟩)
theorem iJ(l:Bs)(k:Nat)(h:k<(ByteArray.mk l.toArray).size):(((ByteArray.mk l.toArray)[k]'h).toNat:Int)=((l.getD k 0).toNat:Int):=by rw[JM]
theorem jY{a b:Bs}(h:a=b):Ending.returned (.string ⟨a.toArray⟩)=.returned (.string ⟨b.toArray⟩):=by rw[h]
end Go.Proofs.YtnbpdffdnphbeabGreatDoor
