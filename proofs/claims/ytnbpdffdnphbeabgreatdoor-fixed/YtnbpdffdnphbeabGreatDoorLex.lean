import Derived.Laws.Strings2
import Derived.Test.YtnbpdffdnphbeabGreatDoorProg
import Derived.WalkKit
import Derived.WalkSpells
import Derived.WalkLawsBesides
set_option maxHeartbeats 400000
namespace Go.Proofs.YtnbpdffdnphbeabGreatDoor
open Go.RowKit
theorem j1:∀(n:Nat),n<=n:=@Nat.le_refl
theorem t7:∀{c:Prop}{_:Decidable c},¬c->∀{α:Sort _}{t e:α},(if c then t else e)=e:=@if_neg
theorem t8:∀{n m k:Nat},n < m->m<=k->n < k:=@Nat.lt_of_lt_of_le
theorem t9:∀(B:Nat) (w:World),Below B w w:=@Below.refl
theorem tb:∀{α:Type _}{as1 bs:List α},(as1++bs).length=as1.length+bs.length:=@List.length_append
theorem tg:∀{c:Prop}{_:Decidable c},c->∀{α:Sort _}{t e:α},(if c then t else e)=t:=@if_pos
theorem tj:∀(w:World) (g i:Nat) (cs:Array Value) (t:TypeId) (v:Value),w.heap[g]?=some (Obj.cells cs t)->(w.setCell { block := g,off := i } v).heap[g]?=some (Obj.cells (cs.setIfInBounds i v) t):=@heap_setCell_same
theorem tl:∀{p:Prop} [Decidable p],p->decide p=true:=@decide_eq_true
theorem tm:∀{p:Prop} [Decidable p],¬p->decide p=false:=@decide_eq_false
theorem tq:∀(n:Nat),0<=n:=@Nat.zero_le
theorem tr:∀{n m k:Nat},n<=m->m<=k->n<=k:=@Nat.le_trans
theorem tu:∀{α:Type _}{l:List α}{i:Nat}{a:α},l.getD i a=l[i]?.getD a:=@List.getD_eq_getElem?_getD
theorem ty:∀{α:Type _}{a:α}{as1:List α},(a::as1).length=as1.length+1:=@List.length_cons
theorem p5:∀{P:Program}{fn:Func}{R:Ending->World->Prop}{a:Act}{w:World}{v:Value},Sem.run P (results fn a.tmps) w=Result.ok v w->a.defers=[]->R (Ending.returned v) w->bodyPost P fn R Exit.ret a w:=@bodyPost_ret
theorem p6:∀{n m:Nat},n < m->n<=m:=@Nat.le_of_lt
theorem p7:∀{α:Type _}{β:Type _}{b:β}{f:α->β}{l:List α},b∈List.map f l↔∃ (a:α),a∈l/\f a=b:=@List.mem_map
theorem p8:∀{α:Type _}{as1:List α}{i:Nat},as1.length<=i->List.drop i as1=[]:=@List.drop_eq_nil_of_le
theorem p9:∀{α:Type _}{l:List α}{i:Nat} (_:i < l.length),l[i]?=some l[i]:=@List.getElem?_eq_getElem
theorem pb:∀{α:Type _}{i:Nat}{xs:Array α},xs.size<=i->xs[i]?=none:=@Array.getElem?_eq_none
theorem pd:∀{α:Type _} (as1 bs cs:List α),as1++bs++cs=as1++(bs++cs):=@List.append_assoc
theorem pe:∀{α:Type _}{i:Nat}{l:List α} (_:i < l.length),List.drop i l=l[i]::List.drop (i+1) l:=@List.drop_eq_getElem_cons
theorem pf:∀(n m:Nat),n < m\/n≥m:=@Nat.lt_or_ge
theorem pg:∀(w:World) (a:Addr) (k:Nat) (v:Value),k≠a.block->(w.setCell a v).heap[k]?=w.heap[k]?:=@heap_setCell_other
theorem ph:∀{m n:Nat},m∈List.range n↔m < n:=@List.mem_range
theorem pi:∀{α:Type _}{β:Type _}{as1:List α} (f:α->β),(List.map f as1).length=as1.length:=@List.length_map
theorem pj:∀{α:Type _}{a:α},[a].length=1:=@List.length_singleton
theorem pm:∀{α:Type _}{l₁ l₂:List α}{i:Nat},i < l₁.length->(l₁++l₂)[i]?=l₁[i]?:=@List.getElem?_append_left
theorem po:∀{α:Type _}{a b:α},a∈[b]↔a=b:=@List.mem_singleton
theorem pq:∀{B:Nat}{a w:World},Below B a w->Below B a w.drew:=@Below.drew
theorem pr:∀(a b:Bool),((a && b)=true)=(a=true/\b=true):=@Bool.and_eq_true
theorem pt:∀{α:Type _}{a:α}{s t:List α},a∈s++t↔a∈s\/a∈t:=@List.mem_append
theorem pu:∀{p:Prop} [Decidable p],(decide p=true)=p:=@decide_eq_true_eq
theorem pw:∀(n k:Nat),n<=n+k:=@Nat.le_add_right
theorem py:∀{α:Type _} [BEq α] [LawfulBEq α] {a b:α},(a == b)=false↔a≠b:=@beq_eq_false_iff_ne
theorem ma:∀{α:Type _}{l₁ l₂:List α}{i:Nat},l₁.length<=i->(l₁++l₂)[i]?=l₂[i - l₁.length]?:=@List.getElem?_append_right
theorem mc:∀{α:Type _} (y:α) {a:α}{l:List α},a∈l->a∈y::l:=@List.mem_cons_of_mem
theorem md:∀{α:Type _} (as1:List α),as1++[]=as1:=@List.append_nil
theorem me:∀{α:Type _}{p:α->Bool}{l:List α},l.any p=true↔∃ (x:α),x∈l/\p x=true:=@List.any_eq_true
theorem mh:∀(b:Bool),(true && b)=b:=@Bool.true_and
theorem mj:∀(n:Nat),n+0=n:=@Nat.add_zero
theorem ml:∀{α:Type _}{l:List α},l.length=0->l=[]:=@List.eq_nil_of_length_eq_zero
theorem mp:∀(a:Int),a<=a:=@Int.le_refl
theorem mq:∀(n:Nat),n < n.succ:=@Nat.lt_succ_self
theorem ms:∀(w:World) (a:Addr) (u:Value) (k:Nat),k≠a.block->(w.setCell a u).heap[k]?=w.heap[k]?:=@Below.heap_setCell
theorem mt:∀(w:World) (base:Nat) (e:TypeId) (size:Nat),w.ownsRow base e size (Value.slice none 0 0) 0 []:=@World.ownsRow_nil
theorem mu:∀{α:Type _}{p:α->Bool}{as1:List α}{x:α},x∈List.filter p as1↔x∈as1/\p x=true:=@List.mem_filter
theorem mw:∀{α:Type _} (val val_1:α),(some val=some val_1)=(val=val_1):=@Option.some.injEq
theorem my:∀(n:Nat),n<=n.succ:=@Nat.le_succ
theorem mz:∀{α:Type _}{xs:List α}{i:Nat},xs.toArray[i]?=xs[i]?:=@List.getElem?_toArray
theorem l3:∀{α:Type _}{b:α}{l:List α}{a:α},a∈b::l↔a=b\/a∈l:=@List.mem_cons
theorem l6:∀{p:Prop} [Decidable p],decide p=true↔p:=@decide_eq_true_iff
theorem l8:∀{n:Nat},List.range n.succ=List.range n++[n]:=@List.range_succ
theorem l9:∀{α:Type _}{a:α}{as1 bs:List α},a::as1++bs=a::(as1++bs):=@List.cons_append
theorem ld:∀(w:World) (o:Obj) (k:Nat),k < w.heap.size->(w.alloc o).heap[k]?=w.heap[k]?:=@Below.heap_alloc
theorem lh:∀{a:Int},0<=a->∃ (n:Nat),a = ↑n:=@Int.eq_ofNat_of_zero_le
theorem li:∀{α:Type _}{a:α}{l:List α}{f:α->Bool},(a::l).any f=(f a || l.any f):=@List.any_cons
theorem lj:∀{α:Type _}{β:Type _}{f:α->β}{l₁ l₂:List α},List.map f (l₁++l₂)=List.map f l₁++List.map f l₂:=@List.map_append
theorem lk:∀(b:Bool),(false || b)=b:=@Bool.false_or
theorem ll:∀{x y:Bool},(x || y)=false↔x=false/\y=false:=@Bool.or_eq_false_iff
theorem lq:∀(w:World) (g:Nat) (old cs:Array Value) (t:TypeId) (fr:Nat × Nat),w.heap[g]?=some (Obj.cells old t fr)->(w.setRow g cs).heap[g]?=some (Obj.cells cs t fr):=@setRow_heap
theorem lu:∀{α:Type _}{i:Nat}{l:List α},(List.take i l).length=min i l.length:=@List.length_take
theorem ly:∀{p:Prop} [Decidable p],decide p=true->p:=@of_decide_eq_true
theorem ba:∀{α:Type _}{β:Type _}{x:α}{xs:List α}{f:α->List β},List.flatMap f (x::xs)=f x++List.flatMap f xs:=@List.flatMap_cons
theorem bf:∀{n:Nat}{α:Type _}{a:α}{i:Nat},(List.replicate n a)[i]?=if i < n then some a else none:=@List.getElem?_replicate
theorem bg:∀{α:Type _}{a:α}{i:Nat}{l:List α},(a::l)[i+1]?=l[i]?:=@List.getElem?_cons_succ
theorem bh:∀{α:Type _}{β:Type _}{xs ys:List α}{f:α->List β},List.flatMap f (xs++ys)=List.flatMap f xs++List.flatMap f ys:=@List.flatMap_append
theorem bm:∀{α:Type _}{l:List α},List.take l.length l=l:=@List.take_length
theorem bp:∀(b:Bool),(false && b)=false:=@Bool.false_and
theorem bq:∀{α:Type _}{β:Type _}{f:α->List β}{b:β}{l:List α},b∈List.flatMap f l↔∃ (a:α),a∈l/\b∈f a:=@List.mem_flatMap
theorem bs:∀(n:Nat),0+n=n:=@Nat.zero_add
theorem bt:∀(a b:Bool),((a || b)=true)=(a=true\/b=true):=@Bool.or_eq_true
theorem bw:∀{α:Type _}{β:Type _}{f:α->β}{a:α}{l:List α},List.map f (a::l)=f a::List.map f l:=@List.map_cons
theorem cb:∀(a b:Int),a < b\/b<=a:=@Int.lt_or_le
theorem cd:∀{p:Prop}{_:Decidable p},decide p=false↔¬p:=@decide_eq_false_iff_not
theorem ce:∀{α:Type _}{i:Nat}{l:List α},(List.drop i l).length=l.length - i:=@List.length_drop
theorem cf:∀{α:Type _}{a:α}{l:List α},(a::l)[0]?=some a:=@List.getElem?_cons_zero
theorem cg:∀{α:Type _}{l:List α}{n:Nat} (_:n < l.length),l[n]∈l:=@List.getElem_mem
theorem ci:∀{α:Type _} (as1:List α),[]++as1=as1:=@List.nil_append
theorem cj:∀{α:Type _}{xs ys:Array α}{i:Nat},xs.size<=i->(xs++ys)[i]?=ys[i - xs.size]?:=@Array.getElem?_append_right
theorem co:∀{α:Type _}{as1:List α}{i:Nat}{a:α},(as1.set i a).length=as1.length:=@List.length_set
theorem cp:∀{a b:Bool},a=b↔(a=true↔b=true):=@Bool.eq_iff_iff
theorem cq:∀(w:World) (g j:Nat) (cs:Array Value) (t:TypeId) (fr:Nat × Nat),w.heap[g]?=some (Obj.cells cs t fr)->w.cell? { block := g,off := j }=cs[j]?:=@cell_of_row
theorem cr:∀{x y:Bool},(x && y)=false↔x=false\/y=false:=@Bool.and_eq_false_iff
theorem ct:∀{α:Type _}{l:List α}{i j:Nat},(List.take i l)[j]?=if j < i then l[j]? else none:=@List.getElem?_take
theorem cw:∀(n m k:Nat),n+m+k=n+(m+k):=@Nat.add_assoc
theorem cx:∀{α:Type _}{a:α},¬a∈[]:=@List.not_mem_nil
theorem cy:∀{a b:Nat},b < a->a≠b:=@Nat.ne_of_gt
theorem d8:∀(b:Bool),(true || b)=true:=@Bool.true_or
theorem d9:∀{α:Type _}{xs:Array α}{i:Nat},xs.toList[i]?=xs[i]?:=@Array.getElem?_toList
theorem da{B:Nat}{w:World}(h:B<=w.heap.size)(o:Obj):Below B w (w.alloc o):=(Below.refl _ _).alloc h o
variable{i:Nat}
def gP(c:Int):Bool:=c==32 || c==10
def bT(c:Int):Bool:=decide (97<=c)&&decide (c<=122)
def gL(c:Int):Bool:=decide (48<=c)&&decide (c<=57)
def Yz(c:Int):Int:=if 97<=c/\c<=122 then 1 else if 48<=c/\c<=57 then 2 else if c=32\/c=10 then 3 else 0
abbrev Bs:=List UInt8
theorem X5(l:Bs)(k:Nat)(h:k<(ByteArray.mk l.toArray).size):(ByteArray.mk l.toArray)[k]=l.getD k 0:=by
 have h':k<l.length:=by have h1:k<l.toArray.size:=h;simpa using h1
 have e:(ByteArray.mk l.toArray)[k]=l.toArray[k]'(by simpa using h'):=rfl;rw[e];simp[List.getD,h']
theorem U5(c d:UInt8):(((c.toNat:Int)==(d.toNat:Int))=true) ↔ c=d:=by
 rw[beq_iff_eq];constructor
 ·intro h;exact UInt8.toNat_inj.1 (by omega)
 ·intro h;rw[h]
def zCQ(l s:Bs):Nat->Nat->Nat->Bool
 | 0,_,_=>false
 | n+1,a,i=>if i=l.length\/l.getD i 0=32 then (if (l.drop a).take (i-a)=s then true else zCQ l s n (i+1) (i+1)) else zCQ l s n a (i+1)
def jN(l s:Bs):Bool:=zCQ l s (l.length+1) 0 0
def so(c:UInt8):Int:=Yz (c.toNat:Int)
def tL(k:Int):Bs->Nat
 | []=>0
 | c::r=>if so c=k then tL k r+1 else 0
theorem yr(k:Int)(l:Bs):tL k l<=l.length:=by
 induction l with
 | nil=>simp[tL]
 | cons c r ih=>simp only[tL];split <;> simp <;> omega
theorem aP(l:Bs)(k:Nat)(h:k<l.length):l.drop k=l.getD k 0::l.drop (k+1):=by
 rw[pe h];simp[List.getD,h]
theorem VS{k:Int}{l:Bs}(h:i<l.length)(he:so (l.getD i 0)=k):i+tL k (l.drop i)=(i+1)+tL k (l.drop (i+1)):=by
 rw[aP l i h,tL,tg he];omega
theorem Qn{k:Int}{l:Bs}(h:i<l.length)(he:¬so (l.getD i 0)=k):i+tL k (l.drop i)=i:=by
 rw[aP l i h,tL,t7 he];omega
theorem Qo{k:Int}{l:Bs}(h:¬i<l.length):i+tL k (l.drop i)=i:=by
 rw[p8 (by omega)];rfl
def qU:Bs:=[46,46,32,60,61,32,33,61,32,62,61]
def B9:Bs:=[110,117,109,32,102,108,97,103,32,114,117,108,101,32,111,118,101,114,32,119,104,101,110,32,111,114,32,97,110,100,32,110,111,116,32,104,97,115,32,97,108,119,97,121,115]
def G7:Bs:=[58,32,61,32,46,46,32,59,32,40,32,41,32,60,32,60,61,32,33,61,32,62,61,32,62,32,43,32,45,32,42]
def JM(l:Bs):Bool:=decide (1<l.length)&&jN qU (l.take 2)
def uC(l:Bs):Nat:=if so (l.getD 0 0)=0 then (if JM l=true then 2 else 1) else 1+tL (so (l.getD 0 0)) (l.drop 1)
theorem Zq(l:Bs):1<=uC l:=by unfold uC;split <;> (try split) <;> omega
theorem uc{l:Bs}(h:0<l.length):uC l<=l.length:=by
 unfold uC;split
 ·split
  ·rename_i _ h2;simp[JM]at h2;omega
  ·omega
 ·have:=yr (so (l.getD 0 0)) (l.drop 1);rw[ce]at this;omega
def zC9:Bs:=[66,65,68]
def rK:Bs:=[78,65,77,69]
def dG:Bs:=[78,85,77,66,69,82]
def uS(l:Bs):Bs :=
 if so (l.getD 0 0)=1 then (if 8<l.length then zC9 else if jN B9 l=true then l else rK)
 else if so (l.getD 0 0)=2 then (if 4<l.length\/1<l.length/\l.getD 0 0=48 then zC9 else dG)
 else if jN G7 l=true then l else zC9
def qG:Nat->Bs->Nat->List (Nat × Bs)
 | 0,_,_=>[]
 | n+1,l,p=>if l.length=0 then [] else if so (l.getD 0 0)=3 then qG n (l.drop 1) (p+1) else (p,l.take (uC l))::qG n (l.drop (uC l)) (p+uC l)
theorem lO(n p:Nat):qG n [] p=[]:=by cases n <;> simp[qG]
theorem bS(n:Nat):∀(m:Nat) (l:Bs) (p:Nat),l.length<=n->l.length<=m->qG n l p=qG m l p:=by
 induction n with
 | zero=>intro m l p h _;have:l=[]:=ml (by omega);subst this;rw[lO,lO]
 | succ n ih =>
   intro m l p hn hm
   cases m with
   | zero=>have:l=[]:=ml (by omega);subst this;rw[lO,lO]
   | succ m =>
     simp only[qG];split
     ·rfl
     ·have:=Zq l
      rw[ih m (l.drop 1) _ (by simp;omega) (by simp;omega),ih m (l.drop (uC l)) _ (by simp;omega) (by simp;omega)]
def vC(l:Bs)(p:Nat):List (Nat × Bs):=qG l.length (l.drop p) p
theorem JO{l:Bs}{p:Nat}(h:¬p<l.length):vC l p=[]:=by
 unfold vC;rw[p8 (by omega),lO]
theorem lH(l:Bs)(p i:Nat):(l.drop p).getD i 0=l.getD (p+i) 0:=by simp[List.getD]
theorem Xh{l:Bs}{p:Nat}(h:p<l.length)(hb:so (l.getD p 0)=3):vC l p=vC l (p+1):=by
 unfold vC;rw[bS l.length (l.length+1) (l.drop p) p (by simp) (by simp;omega),qG,t7 (by simp;omega),tg (by rw[lH];exact hb),List.drop_drop]
theorem JN{l:Bs}{p:Nat}(h:p<l.length)(hb:¬so (l.getD p 0)=3):vC l p=(p,(l.drop p).take (uC (l.drop p)))::vC l (p+uC (l.drop p)):=by
 unfold vC;rw[bS l.length (l.length+1) (l.drop p) p (by simp) (by simp;omega),qG,t7 (by simp;omega),t7 (by rw[lH];exact hb),List.drop_drop]
theorem Km(n:Nat):∀(l:Bs) (p:Nat),(qG n l p).length<=l.length:=by
 induction n with
 | zero=>intro l p;simp[qG]
 | succ n ih =>
   intro l p;simp only[qG];split
   ·simp
   ·split
    ·have:=ih (l.drop 1) (p+1);simp at this ⊢;omega
    ·have h1:=ih (l.drop (uC l)) (p+uC l);have h2:=Zq l
     rw[ty];rw[ce]at h1;omega
theorem oH(l:Bs)(p:Nat):(vC l p).length<=l.length:=by
 have:=Km l.length (l.drop p) p;unfold vC;simp at this;omega
def zBU:List Bs:=[[108,105,110,101],[110,117,109],[110,117,109],[110,117,109],[78,65,77,69],[102,114,111,109],[102,114,111,109],[78,85,77,66,69,82],[116,111],[116,111],[46,46],[116,105,108,108],[116,105,108,108],[78,85,77,66,69,82],[101,110,100],[108,105,110,101],[102,108,97,103],[108,97,115,116],[108,97,115,116],[78,65,77,69],[101,110,100],[108,105,110,101],[111,118,101,114],[111,118,101,114],[111,118,101,114],[78,65,77,69],[108,97,115,116],[101,110,100],[59],[108,105,110,101],[108,105,110,101],[114,117,108,101],[114,117,108,101],[114,117,108,101],[78,65,77,69],[108,97,98,101,108],[108,97,98,101,108],[58],[99,111,108,111,110],[99,111,108,111,110],[78,65,77,69],[104,101,97,100],[104,101,97,100],[61],[112,97,114,116],[112,97,114,116],[78,65,77,69],[112,97,114,116,101,100],[112,97,114,116],[78,85,77,66,69,82],[99,111,117,110,116,101,100],[99,111,117,110,116,101,100],[42],[116,105,109,101,115],[99,111,117,110,116,101,100],[43],[112,97,114,116],[99,111,117,110,116,101,100],[45],[112,97,114,116],[99,111,117,110,116,101,100],[119,104,101,110],[102,97,99,116],[116,105,109,101,115],[78,65,77,69],[112,97,114,116,101,100],[112,97,114,116,101,100],[43],[112,97,114,116],[112,97,114,116,101,100],[45],[112,97,114,116],[112,97,114,116,101,100],[119,104,101,110],[102,97,99,116],[102,97,99,116],[110,111,116],[102,97,99,116],[102,97,99,116],[40],[102,97,99,116],[102,97,99,116],[97,108,119,97,121,115],[100,111,110,101],[102,97,99,116],[104,97,115],[104,97,115],[102,97,99,116],[78,65,77,69],[110,97,109,101,100],[104,97,115],[78,65,77,69],[100,111,110,101],[110,97,109,101,100],[60],[116,104,97,110],[110,97,109,101,100],[60,61],[116,104,97,110],[110,97,109,101,100],[61],[116,104,97,110],[110,97,109,101,100],[33,61],[116,104,97,110],[110,97,109,101,100],[62,61],[116,104,97,110],[110,97,109,101,100],[62],[116,104,97,110],[116,104,97,110],[78,65,77,69],[100,111,110,101],[116,104,97,110],[78,85,77,66,69,82],[100,111,110,101],[100,111,110,101],[111,114],[102,97,99,116],[100,111,110,101],[97,110,100],[102,97,99,116],[100,111,110,101],[41],[100,111,110,101],[100,111,110,101],[59],[108,105,110,101]]
def jm(st cl:Bs):Nat->Nat->Bs
 | 0,_=>[]
 | n+1,i=>if zBU.getD (i*3) []=st/\zBU.getD (i*3+1) []=cl then zBU.getD (i*3+2) [] else jm st cl n (i+1)
def zD4:Bs:=[108,105,110,101]
def zAP:Bs:=[110,97,109,101,100]
def je:Bs:=[100,111,110,101]
def rU:Bs:=[111,114]
def tP:Bs:=[97,110,100]
def uV:Bs:=[41]
def xQ:Bs:=[40]
def lW:Bs:=[59]
def jg(st cl:Bs)(op:Int):Bs :=
 let st':=if st=zAP/\(cl=rU\/cl=tP\/cl=uV\/cl=lW) then je else st
 if st'=je/\(cl=uV/\op=0\/cl=lW/\0<op) then [] else jm st' cl 43 0
def FF(len:Int):List (Nat × Bs)->Bs->Int->Int
 | [],st,_=>if st=zD4 then -1 else len
 | t::r,st,op=>if jg st (uS t.2) op=[] then (t.1:Int) else FF len r (jg st (uS t.2) op) (if uS t.2=xQ then op+1 else if uS t.2=uV then op-1 else op)
open Go.RowKit
theorem yN{k:IntKind}{a b:Int}(h:a=b):Ending.returned (.int k a)=.returned (.int k b):=by rw[h]
theorem zF{a b:Bool}(h:a=b):Ending.returned (.bool a)=.returned (.bool b):=by rw[h]
theorem QR(c:Int)(w:World) :
 Calls Tryz.prog 101 #[.int .u8 c] w fun e w'=>e=.returned (.bool (gP c))/\w'=w:=by
 go_enter Tryz.func101,Tryz.ntmps101
 go_wp2
 all_goals (go_ret;exact⟨zF (by simp[gP, *]),rfl⟩)
theorem X2(c:Int)(w:World) :
 Calls Tryz.prog 144 #[.int .u8 c] w fun e w'=>e=.returned (.bool (bT c))/\w'=w:=by
 go_enter Tryz.func144,Tryz.ntmps144
 go_wp2
 all_goals (go_ret;exact⟨zF (by simp[bT];try omega),rfl⟩)
theorem QQ(c:Int)(w:World) :
 Calls Tryz.prog 146 #[.int .u8 c] w fun e w'=>e=.returned (.bool (gL c))/\w'=w:=by
 go_enter Tryz.func146,Tryz.ntmps146
 go_wp2
 all_goals (go_ret;exact⟨zF (by simp[gL];try omega),rfl⟩)
theorem sA(l:Bs)(k:Nat)(h:k<(ByteArray.mk l.toArray).size):(((ByteArray.mk l.toArray)[k]'h).toNat:Int)=((l.getD k 0).toNat:Int):=by rw[X5]
theorem kW{a b:Bs}(h:a=b):Ending.returned (.string ⟨a.toArray⟩)=.returned (.string ⟨b.toArray⟩):=by rw[h]
end Go.Proofs.YtnbpdffdnphbeabGreatDoor
