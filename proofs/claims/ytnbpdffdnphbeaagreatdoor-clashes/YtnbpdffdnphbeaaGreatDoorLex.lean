import Derived.Laws.Strings2
import Derived.Test.YtnbpdffdnphbeaaGreatDoorProg
import Derived.WalkKit
import Derived.WalkSpells
import Derived.WalkLawsBesides
set_option maxHeartbeats 400000
namespace Go.Proofs.YtnbpdffdnphbeaaGreatDoor
open Go.RowKit
theorem t9:∀(n:Nat),n<=n:=@Nat.le_refl
theorem tg:∀{c:Prop}{_:Decidable c},¬c->∀{α:Sort _}{t e:α},(if c then t else e)=e:=@if_neg
theorem th:∀{p:Prop} [Decidable p],¬p->decide p=false:=@decide_eq_false
theorem ti:∀{n m k:Nat},n < m->m<=k->n < k:=@Nat.lt_of_lt_of_le
theorem tj:∀(B:Nat) (w:World),Below B w w:=@Below.refl
theorem tl:∀{c:Prop}{_:Decidable c},c->∀{α:Sort _}{t e:α},(if c then t else e)=t:=@if_pos
theorem tm:∀{p:Prop} [Decidable p],p->decide p=true:=@decide_eq_true
theorem tq:∀{α:Type _}{as1 bs:List α},(as1++bs).length=as1.length+bs.length:=@List.length_append
theorem tr:∀(n:Nat),0<=n:=@Nat.zero_le
theorem tu:∀{α:Type _}{as1:List α}{i:Nat},as1.length<=i->List.drop i as1=[]:=@List.drop_eq_nil_of_le
theorem tx:∀{n m k:Nat},n<=m->m<=k->n<=k:=@Nat.le_trans
theorem ty:∀{α:Type _}{i:Nat}{l:List α},(List.drop i l).length=l.length - i:=@List.length_drop
theorem tz:∀(a b:Bool),((a && b)=true)=(a=true/\b=true):=@Bool.and_eq_true
theorem p7:∀{α:Type _}{a:α}{as1:List α},(a::as1).length=as1.length+1:=@List.length_cons
theorem p8:∀{n m:Nat},n < m->n<=m:=@Nat.le_of_lt
theorem p9:∀{α:Type _}{i:Nat}{l:List α},(List.take i l).length=min i l.length:=@List.length_take
theorem pb:∀{α:Type _}{i:Nat}{l:List α} (_:i < l.length),List.drop i l=l[i]::List.drop (i+1) l:=@List.drop_eq_getElem_cons
theorem pd:∀{α:Type _}{a:α},[a].length=1:=@List.length_singleton
theorem pe:∀{α:Type _}{l:List α}{i:Nat} (_:i < l.length),l[i]?=some l[i]:=@List.getElem?_eq_getElem
theorem pf:∀{α:Type _}{l₁ l₂:List α}{i:Nat},l₁.length<=i->(l₁++l₂)[i]?=l₂[i - l₁.length]?:=@List.getElem?_append_right
theorem ph:∀{P:Program}{fn:Func}{R:Ending->World->Prop}{a:Act}{w:World}{v:Value},Sem.run P (results fn a.tmps) w=Result.ok v w->a.defers=[]->R (Ending.returned v) w->bodyPost P fn R Exit.ret a w:=@bodyPost_ret
theorem pi:∀{α:Type _}{b:α}{l:List α}{a:α},a∈b::l↔a=b\/a∈l:=@List.mem_cons
theorem pj:∀{α:Type _}{i:Nat}{xs:Array α},xs.size<=i->xs[i]?=none:=@Array.getElem?_eq_none
theorem pm:∀(b:Bool),(false || b)=b:=@Bool.false_or
theorem po:∀(n m:Nat),n < m\/n≥m:=@Nat.lt_or_ge
theorem pq:∀(n:Nat),n+0=n:=@Nat.add_zero
theorem pr:∀{p:Prop} [Decidable p],decide p=true↔p:=@decide_eq_true_iff
theorem pt:∀{α:Type _}{a:α}{s t:List α},a∈s++t↔a∈s\/a∈t:=@List.mem_append
theorem pu:∀{α:Type _}{a b:α},a∈[b]↔a=b:=@List.mem_singleton
theorem pw:∀{α:Type _}{l₁ l₂:List α}{i:Nat},i < l₁.length->(l₁++l₂)[i]?=l₁[i]?:=@List.getElem?_append_left
theorem py:∀{p:Prop} [Decidable p],(decide p=true)=p:=@decide_eq_true_eq
theorem m6:∀(w:World) (g i:Nat) (cs:Array Value) (t:TypeId) (v:Value),w.heap[g]?=some (Obj.cells cs t)->(w.setCell { block := g,off := i } v).heap[g]?=some (Obj.cells (cs.setIfInBounds i v) t):=@heap_setCell_same
theorem ma:∀{α:Type _}{p:α->Bool}{as1:List α}{x:α},x∈List.filter p as1↔x∈as1/\p x=true:=@List.mem_filter
theorem mc:∀(n k:Nat),n<=n+k:=@Nat.le_add_right
theorem md:∀(b:Bool),(true && b)=b:=@Bool.true_and
theorem me:∀{B:Nat}{a w:World},Below B a w->Below B a w.drew:=@Below.drew
theorem mh:∀(n:Nat),n < n.succ:=@Nat.lt_succ_self
theorem mj:∀{α:Type _}{p:α->Bool}{l:List α},l.any p=true↔∃ (x:α),x∈l/\p x=true:=@List.any_eq_true
theorem ml:∀{α:Type _}{β:Type _}{b:β}{f:α->β}{l:List α},b∈List.map f l↔∃ (a:α),a∈l/\f a=b:=@List.mem_map
theorem mn:∀{α:Type _} (as1 bs cs:List α),as1++bs++cs=as1++(bs++cs):=@List.append_assoc
theorem mq:∀(w:World) (o:Obj) (k:Nat),k < w.heap.size->(w.alloc o).heap[k]?=w.heap[k]?:=@Below.heap_alloc
theorem ms:∀{α:Type _}{β:Type _}{as1:List α} (f:α->β),(List.map f as1).length=as1.length:=@List.length_map
theorem mt:∀{α:Type _}{a:α}{l:List α}{f:α->Bool},(a::l).any f=(f a || l.any f):=@List.any_cons
theorem mu:∀{α:Type _}{l:List α},l.length=0->l=[]:=@List.eq_nil_of_length_eq_zero
theorem mw:∀{α:Type _}{a:α}{l:List α},a∈a::l:=@List.mem_cons_self
theorem my:∀(n:Nat),0*n=0:=@Nat.zero_mul
theorem mz:∀(a b:Bool),((a || b)=true)=(a=true\/b=true):=@Bool.or_eq_true
theorem l5:∀(b:Bool),(false && b)=false:=@Bool.false_and
theorem l6:∀(w:World) (a:Addr) (k:Nat) (v:Value),k≠a.block->(w.setCell a v).heap[k]?=w.heap[k]?:=@heap_setCell_other
theorem l7:∀{w w':World}{a:Addr},w'.heap[a.block]?=w.heap[a.block]?->w'.cell? a=w.cell? a:=@World.cell?_of_block
theorem l8:∀{α:Type _}{l:List α}{i:Nat}{a:α},l.getD i a=l[i]?.getD a:=@List.getD_eq_getElem?_getD
theorem l9:∀{α:Type _}{a:α},¬a∈[]:=@List.not_mem_nil
theorem ld:∀{x y:Bool},(x || y)=false↔x=false/\y=false:=@Bool.or_eq_false_iff
theorem lj:∀{α:Type _}{l:List α},List.take l.length l=l:=@List.take_length
theorem lk:∀(w:World) (base:Nat) (e:TypeId) (size:Nat),w.ownsRow base e size (Value.slice none 0 0) 0 []:=@World.ownsRow_nil
theorem lp:∀(b:Bool),(b && false)=false:=@Bool.and_false
theorem lq:∀(w:World) (a:Addr) (u:Value) (k:Nat),k≠a.block->(w.setCell a u).heap[k]?=w.heap[k]?:=@Below.heap_setCell
theorem lu:∀(n:Nat),0+n=n:=@Nat.zero_add
theorem ly:∀(w:World) (g:Nat) (old cs:Array Value) (t:TypeId) (fr:Nat × Nat),w.heap[g]?=some (Obj.cells old t fr)->(w.setRow g cs).heap[g]?=some (Obj.cells cs t fr):=@setRow_heap
theorem bf:∀{α:Type _} (as1:List α),[]++as1=as1:=@List.nil_append
theorem bg:∀{p:Prop} [Decidable p],decide p=true->p:=@of_decide_eq_true
theorem bj:∀(n:Nat),n - n=0:=@Nat.sub_self
theorem bk:∀{p:Prop}{_:Decidable p},decide p=false↔¬p:=@decide_eq_false_iff_not
theorem bm:∀(n:Nat),n<=n.succ:=@Nat.le_succ
theorem bp:∀{p q:Prop}{_:Decidable p}{_:Decidable q},decide p=decide q↔(p↔q):=@decide_eq_decide
theorem bq:∀{a:Int},0<=a->∃ (n:Nat),a = ↑n:=@Int.eq_ofNat_of_zero_le
theorem bv:∀{α:Type _}{l:List α}{i j:Nat},(List.take i l)[j]?=if j < i then l[j]? else none:=@List.getElem?_take
theorem bw:∀{α:Type _}{a:α}{as1 bs:List α},a::as1++bs=a::(as1++bs):=@List.cons_append
theorem cd:∀{α:Type _} (y:α) {a:α}{l:List α},a∈l->a∈y::l:=@List.mem_cons_of_mem
theorem ce:∀{α:Type _} (as1:List α),as1++[]=as1:=@List.append_nil
theorem cf:∀{α:Type _}{i:Nat}{l:List α},l.length<=i->List.take i l=l:=@List.take_of_length_le
theorem cg:∀{α:Type _}{a:α}{l:List α},(a::l)[0]?=some a:=@List.getElem?_cons_zero
theorem co:∀{α:Type _}{val val_1:α},some val=some val_1->val=val_1:=@Option.some.inj
theorem cr:∀(a b:Int),a < b\/b<=a:=@Int.lt_or_le
theorem ct:∀{a b:Bool},a=b↔(a=true↔b=true):=@Bool.eq_iff_iff
theorem cw:∀{α:Type _}{a:α}{i:Nat}{l:List α},(a::l)[i+1]?=l[i]?:=@List.getElem?_cons_succ
theorem cx:∀{α:Type _} (val val_1:α),(some val=some val_1)=(val=val_1):=@Option.some.injEq
theorem cy:∀{α:Type _}{xs:List α}{i:Nat},xs.toArray[i]?=xs[i]?:=@List.getElem?_toArray
theorem da:∀{a b:Nat},a<=b->min a b=a:=@Nat.min_eq_left
theorem db:∀{m n:Nat},m∈List.range n↔m < n:=@List.mem_range
theorem dc:false≠true:=@Bool.false_ne_true
theorem dd:∀{α:Type _}{l:List α} (h:l≠[]),l.dropLast++[l.getLast h]=l:=@List.dropLast_concat_getLast
theorem df:∀{α:Type _}{f:α->Bool}{xs ys:List α},(xs++ys).any f=(xs.any f || ys.any f):=@List.any_append
theorem dg:∀{α:Type _} (p:α->Bool) (l:List α),(List.filter p l).length<=l.length:=@List.length_filter_le
theorem dh:(!false)=true:=@Bool.not_false
theorem di:∀{n:Nat},List.range n.succ=List.range n++[n]:=@List.range_succ
theorem dj:∀{α:Type _}{l:List α}{i:Nat},List.take (i+1) l=List.take i l++l[i]?.toList:=@List.take_add_one
theorem dk:∀(a:Int),a<=a:=@Int.le_refl
theorem dl:∀{w w':World}{a:Addr},w'.heap[a.block]?=w.heap[a.block]?->w'.frozen? a=w.frozen? a:=@World.frozen?_of_block
theorem dm:∀{α:Type _}{β:Type _}{f:α->β}{a:α}{l:List α},List.map f (a::l)=f a::List.map f l:=@List.map_cons
theorem dn:∀(p:Prop),(p\/False)=p:=@or_false
theorem dp:∀{P:Program}{e:TypeId}{z:Value}{size bytes:Nat},Option.map (fun (i:TypeInfo)=>(i.zero,i.size,i.bytes)) (P.info? e)=some (some z,size,bytes)->∃ (i:TypeInfo),P.info? e=some i/\i.zero=some z/\i.size=size/\i.bytes=bytes:=@info_parts
theorem dq:∀(b:Bool),(true || b)=true:=@Bool.true_or
theorem dt:∀(_:Decidable False),decide False=false:=@decide_false
theorem du:∀(n:Nat),1*n=n:=@Nat.one_mul
theorem dv:∀{α:Type _}{l:List α},0 < l.length->l≠[]:=@List.ne_nil_of_length_pos
theorem dw:∀{α:Type _}{xs ys:Array α}{i:Nat},xs.size<=i->(xs++ys)[i]?=ys[i - xs.size]?:=@Array.getElem?_append_right
theorem dy:∀(b:Bool),(b || true)=true:=@Bool.or_true
theorem f8:∀{α:Type _}{a:α}{l:List α},a∈l->∃ (i:Nat),∃ (_:i < l.length),l[i]=a:=@List.getElem_of_mem
theorem f9:∀{α:Type _}{β:Type _}{xs ys:List α}{f:α->List β},List.flatMap f (xs++ys)=List.flatMap f xs++List.flatMap f ys:=@List.flatMap_append
theorem fa:∀{α:Type _} [BEq α] [LawfulBEq α] {a b:α},(a == b)=false↔a≠b:=@beq_eq_false_iff_ne
theorem fd:∀{α:Type _}{p:α->Bool},List.filter p []=[]:=@List.filter_nil
theorem fe:∀{α:Type _}{β:Type _}{x:α}{xs:List α}{f:α->List β},List.flatMap f (x::xs)=f x++List.flatMap f xs:=@List.flatMap_cons
theorem ff:∀{b:Bool},b=false↔b≠true:=@Bool.eq_false_iff
theorem fg:∀(w:World) (g j:Nat) (cs:Array Value) (t:TypeId) (fr:Nat × Nat),w.heap[g]?=some (Obj.cells cs t fr)->w.cell? { block := g,off := j }=cs[j]?:=@cell_of_row
theorem fj:∀{x y:Bool},(x && y)=false↔x=false\/y=false:=@Bool.and_eq_false_iff
theorem fk:∀(_:Decidable True),decide True=true:=@decide_true
theorem fo:∀{a b:Nat},a < b->a≠b:=@Nat.ne_of_lt
theorem fq:∀{a b:Nat},b < a->a≠b:=@Nat.ne_of_gt
theorem ft:∀{α:Type _}{l:List α},0 < l.length↔l≠[]:=@List.length_pos_iff
theorem fw:∀{α:Type _}{l:List α}{i:Nat},l.length<=i->l[i]?=none:=@List.getElem?_eq_none
theorem ge{B:Nat}{w:World}(h:B<=w.heap.size)(o:Obj):Below B w (w.alloc o):=(Below.refl _ _).alloc h o
variable{k:Int}{i a p:Nat}
def sR(c:Int):Bool:=c==32 || c==10
def fY(c:Int):Bool:=decide (97<=c)&&decide (c<=122)
def sP(c:Int):Bool:=decide (48<=c)&&decide (c<=57)
def tV(c:Int):Int:=if 97<=c/\c<=122 then 1 else if 48<=c/\c<=57 then 2 else if c=32\/c=10 then 3 else 0
theorem zC3{c:Int}(h:97<=c/\c<=122):tV c=1:=by simp[tV,h]
theorem zC2{c:Int}(h:48<=c/\c<=57):tV c=2:=by unfold tV;rw[tg (by omega),tl h]
theorem zC1{c:Int}(h:c=32\/c=10):tV c=3:=by unfold tV;rw[tg (by omega),tg (by omega),tl h]
theorem zC4{c:Int}(h1:¬(97<=c/\c<=122))(h2:¬(48<=c/\c<=57))(h3:¬(c=32\/c=10)):tV c=0:=by
 unfold tV;rw[tg h1,tg h2,tg h3]
abbrev Bs:=List UInt8
variable{l st s cl:Bs}
theorem oI(l:Bs)(k:Nat)(h:k<(ByteArray.mk l.toArray).size):(ByteArray.mk l.toArray)[k]=l.getD k 0:=by
 have h':k<l.length:=by have h1:k<l.toArray.size:=h;simpa using h1
 have e:(ByteArray.mk l.toArray)[k]=l.toArray[k]'(by simpa using h'):=rfl;rw[e];simp[List.getD,h']
theorem Xe(c d:UInt8):(((c.toNat:Int)==(d.toNat:Int))=true) ↔ c=d:=by
 rw[beq_iff_eq];constructor
 ·intro h;exact UInt8.toNat_inj.1 (by omega)
 ·intro h;rw[h]
def KK(l s:Bs):Nat->Nat->Nat->Bool
 | 0,_,_=>false
 | n+1,a,i=>if i=l.length\/l.getD i 0=32 then (if (l.drop a).take (i-a)=s then true else KK l s n (i+1) (i+1)) else KK l s n a (i+1)
def xY(l s:Bs):Bool:=KK l s (l.length+1) 0 0
theorem zEB{k:Nat}(hk:k<=l.length)(h:k=l.length\/l.getD k 0=32)(h2:(l.drop a).take (k-a)=s):KK l s (l.length+1-k) a k=true:=by
 rw[show l.length+1-k=(l.length-k)+1 by omega,KK,tl h,tl h2]
theorem zB0{k:Nat}(hk:k<=l.length)(h:k=l.length\/l.getD k 0=32)(h2:¬(l.drop a).take (k-a)=s):KK l s (l.length+1-k) a k=KK l s (l.length+1-(k+1)) (k+1) (k+1):=by
 rw[show l.length+1-k=(l.length-k)+1 by omega,KK,tl h,tg h2,show l.length+1-(k+1)=l.length-k by omega]
theorem zGU{k:Nat}(hk:k<=l.length)(h:¬(k=l.length\/l.getD k 0=32)):KK l s (l.length+1-k) a k=KK l s (l.length+1-(k+1)) a (k+1):=by
 rw[show l.length+1-k=(l.length-k)+1 by omega,KK,tg h,show l.length+1-(k+1)=l.length-k by omega]
theorem zEC{k:Nat}(hk:¬k<=l.length):KK l s (l.length+1-k) a k=false:=by
 rw[show l.length+1-k=0 by omega,KK]
def so(c:UInt8):Int:=tV (c.toNat:Int)
def tJ(k:Int):Bs->Nat
 | []=>0
 | c::r=>if so c=k then tJ k r+1 else 0
theorem zC7(k:Int)(l:Bs):tJ k l<=l.length:=by
 induction l with
 | nil=>simp[tJ]
 | cons c r ih=>simp only[tJ];split <;> simp <;> omega
theorem nP(l:Bs)(k:Nat)(h:k<l.length):l.drop k=l.getD k 0::l.drop (k+1):=by
 rw[pb h];simp[List.getD,h]
theorem Kd(h:i<l.length)(he:so (l.getD i 0)=k):i+tJ k (l.drop i)=(i+1)+tJ k (l.drop (i+1)):=by
 rw[nP l i h,tJ,tl he];omega
theorem Xx(h:i<l.length)(he:¬so (l.getD i 0)=k):i+tJ k (l.drop i)=i:=by
 rw[nP l i h,tJ,tg he];omega
theorem Xy(h:¬i<l.length):i+tJ k (l.drop i)=i:=by
 rw[tu (by omega)];rfl
def lJ:Bs:=[46,46,32,60,61,32,33,61,32,62,61]
def pP:Bs:=[110,117,109,32,102,108,97,103,32,114,117,108,101,32,111,118,101,114,32,119,104,101,110,32,111,114,32,97,110,100,32,110,111,116,32,104,97,115,32,97,108,119,97,121,115]
def bF:Bs:=[58,32,61,32,46,46,32,59,32,40,32,41,32,60,32,60,61,32,33,61,32,62,61,32,62,32,43,32,45,32,42]
def Vi(l:Bs):Bool:=decide (1<l.length)&&xY lJ (l.take 2)
def uC(l:Bs):Nat:=if so (l.getD 0 0)=0 then (if Vi l=true then 2 else 1) else 1+tJ (so (l.getD 0 0)) (l.drop 1)
theorem nF(l:Bs):1<=uC l:=by unfold uC;split <;> (try split) <;> omega
theorem K1(h:0<l.length):uC l<=l.length:=by
 unfold uC;split
 ·split
  ·rename_i _ h2;simp[Vi]at h2;omega
  ·omega
 ·have:=zC7 (so (l.getD 0 0)) (l.drop 1);rw[ty]at this;omega
def YI:Bs:=[66,65,68]
def yU:Bs:=[78,65,77,69]
def yB:Bs:=[78,85,77,66,69,82]
def zS(l:Bs):Bs :=
 if so (l.getD 0 0)=1 then (if 8<l.length then YI else if xY pP l=true then l else yU)
 else if so (l.getD 0 0)=2 then (if 4<l.length\/1<l.length/\l.getD 0 0=48 then YI else yB)
 else if xY bF l=true then l else YI
def tC:Nat->Bs->Nat->List (Nat × Bs)
 | 0,_,_=>[]
 | n+1,l,p=>if l.length=0 then [] else if so (l.getD 0 0)=3 then tC n (l.drop 1) (p+1) else (p,l.take (uC l))::tC n (l.drop (uC l)) (p+uC l)
theorem fE(n p:Nat):tC n [] p=[]:=by cases n <;> simp[tC]
theorem Ys(n:Nat):∀(m:Nat) (l:Bs) (p:Nat),l.length<=n->l.length<=m->tC n l p=tC m l p:=by
 induction n with
 | zero=>intro m l p h _;have:l=[]:=mu (by omega);subst this;rw[fE,fE]
 | succ n ih =>
   intro m l p hn hm
   cases m with
   | zero=>have:l=[]:=mu (by omega);subst this;rw[fE,fE]
   | succ m =>
     simp only[tC];split
     ·rfl
     ·have:=nF l
      rw[ih m (l.drop 1) _ (by simp;omega) (by simp;omega),ih m (l.drop (uC l)) _ (by simp;omega) (by simp;omega)]
def yR(l:Bs)(p:Nat):List (Nat × Bs):=tC l.length (l.drop p) p
theorem Xm(h:¬p<l.length):yR l p=[]:=by
 unfold yR;rw[tu (by omega),fE]
theorem bZ(l:Bs)(p i:Nat):(l.drop p).getD i 0=l.getD (p+i) 0:=by simp[List.getD]
theorem nX(h:p<l.length)(hb:so (l.getD p 0)=3):yR l p=yR l (p+1):=by
 unfold yR;rw[Ys l.length (l.length+1) (l.drop p) p (by simp) (by simp;omega),tC,tg (by simp;omega),tl (by rw[bZ];exact hb),List.drop_drop]
theorem Xl(h:p<l.length)(hb:¬so (l.getD p 0)=3):yR l p=(p,(l.drop p).take (uC (l.drop p)))::yR l (p+uC (l.drop p)):=by
 unfold yR;rw[Ys l.length (l.length+1) (l.drop p) p (by simp) (by simp;omega),tC,tg (by simp;omega),tg (by rw[bZ];exact hb),List.drop_drop]
theorem B9(n:Nat):∀(l:Bs) (p:Nat),tJ 3 (l.drop p)=n->yR l p=yR l (p+n):=by
 induction n with
 | zero=>intro l p _;rfl
 | succ n ih =>
   intro l p h;by_cases hp:p<l.length
   ·rw[nP l p hp,tJ]at h
    split at h
    ·rename_i hb
     rw[nX hp hb,ih l (p+1) (by omega)];congr 1;omega
    ·omega
   ·rw[tu (by omega)]at h;simp[tJ]at h
theorem QD(h:p<l.length)(hb:so (l.getD p 0)=3):yR l p=yR l (p+uC (l.drop p)):=by
 have e:uC (l.drop p)=1+tJ 3 ((l.drop p).drop 1):=by
  unfold uC;rw[bZ,pq,tg (by omega),hb]
 rw[e,nX h hb,B9 _ l (p+1) rfl,List.drop_drop,Nat.add_assoc]
theorem BV(n:Nat):∀(l:Bs) (p:Nat),(tC n l p).length<=l.length:=by
 induction n with
 | zero=>intro l p;simp[tC]
 | succ n ih =>
   intro l p;simp only[tC];split
   ·simp
   ·split
    ·have:=ih (l.drop 1) (p+1);simp at this ⊢;omega
    ·have h1:=ih (l.drop (uC l)) (p+uC l);have h2:=nF l
     rw[p7];rw[ty]at h1;omega
theorem kY(l:Bs)(p:Nat):(yR l p).length<=l.length:=by
 have:=BV l.length (l.drop p) p;unfold yR;simp at this;omega
def xP:List Bs:=[[108,105,110,101],[110,117,109],[110,117,109],[110,117,109],[78,65,77,69],[102,114,111,109],[102,114,111,109],[78,85,77,66,69,82],[116,111],[116,111],[46,46],[116,105,108,108],[116,105,108,108],[78,85,77,66,69,82],[101,110,100],[108,105,110,101],[102,108,97,103],[108,97,115,116],[108,97,115,116],[78,65,77,69],[101,110,100],[108,105,110,101],[111,118,101,114],[111,118,101,114],[111,118,101,114],[78,65,77,69],[108,97,115,116],[101,110,100],[59],[108,105,110,101],[108,105,110,101],[114,117,108,101],[114,117,108,101],[114,117,108,101],[78,65,77,69],[108,97,98,101,108],[108,97,98,101,108],[58],[99,111,108,111,110],[99,111,108,111,110],[78,65,77,69],[104,101,97,100],[104,101,97,100],[61],[112,97,114,116],[112,97,114,116],[78,65,77,69],[112,97,114,116,101,100],[112,97,114,116],[78,85,77,66,69,82],[99,111,117,110,116,101,100],[99,111,117,110,116,101,100],[42],[116,105,109,101,115],[99,111,117,110,116,101,100],[43],[112,97,114,116],[99,111,117,110,116,101,100],[45],[112,97,114,116],[99,111,117,110,116,101,100],[119,104,101,110],[102,97,99,116],[116,105,109,101,115],[78,65,77,69],[112,97,114,116,101,100],[112,97,114,116,101,100],[43],[112,97,114,116],[112,97,114,116,101,100],[45],[112,97,114,116],[112,97,114,116,101,100],[119,104,101,110],[102,97,99,116],[102,97,99,116],[110,111,116],[102,97,99,116],[102,97,99,116],[40],[102,97,99,116],[102,97,99,116],[97,108,119,97,121,115],[100,111,110,101],[102,97,99,116],[104,97,115],[104,97,115],[102,97,99,116],[78,65,77,69],[110,97,109,101,100],[104,97,115],[78,65,77,69],[100,111,110,101],[110,97,109,101,100],[60],[116,104,97,110],[110,97,109,101,100],[60,61],[116,104,97,110],[110,97,109,101,100],[61],[116,104,97,110],[110,97,109,101,100],[33,61],[116,104,97,110],[110,97,109,101,100],[62,61],[116,104,97,110],[110,97,109,101,100],[62],[116,104,97,110],[116,104,97,110],[78,65,77,69],[100,111,110,101],[116,104,97,110],[78,85,77,66,69,82],[100,111,110,101],[100,111,110,101],[111,114],[102,97,99,116],[100,111,110,101],[97,110,100],[102,97,99,116],[100,111,110,101],[41],[100,111,110,101],[100,111,110,101],[59],[108,105,110,101]]
def xM(st cl:Bs):Nat->Nat->Bs
 | 0,_=>[]
 | n+1,i=>if xP.getD (i*3) []=st/\xP.getD (i*3+1) []=cl then xP.getD (i*3+2) [] else xM st cl n (i+1)
def jF:Bs:=[108,105,110,101]
def uV:Bs:=[110,97,109,101,100]
def qJ:Bs:=[100,111,110,101]
def xW:Bs:=[111,114]
def yE:Bs:=[97,110,100]
def xS:Bs:=[41]
def yQ:Bs:=[40]
def qQ:Bs:=[59]
def zO(st cl:Bs)(op:Int):Bs :=
 let st':=if st=uV/\(cl=xW\/cl=yE\/cl=xS\/cl=qQ) then qJ else st
 if st'=qJ/\(cl=xS/\op=0\/cl=qQ/\0<op) then [] else xM st' cl 43 0
theorem jS(h:i<43)(h1:xP.getD (i*3) []=st)(h2:xP.getD (i*3+1) []=cl):xM st cl (43-i) i=xP.getD (i*3+2) []:=by
 rw[show 43-i=(42-i)+1 by omega,xM,tl ⟨h1,h2⟩]
theorem xJ(h:i<43)(h1:¬(xP.getD (i*3) []=st/\xP.getD (i*3+1) []=cl)):xM st cl (43-i) i=xM st cl (43-(i+1)) (i+1):=by
 rw[show 43-i=(42-i)+1 by omega,xM,tg h1,show 43-(i+1)=42-i by omega]
theorem jT(h:¬i<43):xM st cl (43-i) i=[]:=by
 rw[show 43-i=0 by omega,xM]
def jB(len:Int):List (Nat × Bs)->Bs->Int->Int
 | [],st,_=>if st=jF then -1 else len
 | t::r,st,op=>if zO st (zS t.2) op=[] then (t.1:Int) else jB len r (zO st (zS t.2) op) (if zS t.2=yQ then op+1 else if zS t.2=xS then op-1 else op)
def tS(l:Bs):Int:=jB l.length (yR l 0) jF 0
theorem zJ(ts:List (Nat × Bs))(k:Nat)(h:k<ts.length):ts.drop k=ts.getD k (0,[])::ts.drop (k+1):=by
 rw[pb h];simp[List.getD,h]
open Go.RowKit
theorem zY{k:IntKind}{a b:Int}(h:a=b):Ending.returned (.int k a)=.returned (.int k b):=by rw[h]
theorem zE{a b:Bool}(h:a=b):Ending.returned (.bool a)=.returned (.bool b):=by rw[h]
theorem Ud(c:Int)(w:World) :
 Calls Tryz.prog 146 #[.int .u8 c] w fun e w'=>e=.returned (.bool (sR c))/\w'=w:=by
 go_enter Tryz.func146,Tryz.ntmps146
 go_wp2
 all_goals (go_ret;exact⟨zE (by simp[sR, *]),rfl⟩)
theorem K4(c:Int)(w:World) :
 Calls Tryz.prog 206 #[.int .u8 c] w fun e w'=>e=.returned (.bool (fY c))/\w'=w:=by
 go_enter Tryz.func206,Tryz.ntmps206
 go_wp2
 all_goals (go_ret;exact⟨zE (by simp[fY];try omega),rfl⟩)
theorem Ub(c:Int)(w:World) :
 Calls Tryz.prog 208 #[.int .u8 c] w fun e w'=>e=.returned (.bool (sP c))/\w'=w:=by
 go_enter Tryz.func208,Tryz.ntmps208
 go_wp2
 all_goals (go_ret;exact⟨zE (by simp[sP];try omega),rfl⟩)
theorem ub(c:Int)(w:World) :
 Calls Tryz.prog 173 #[.int .u8 c] w fun e w'=>e=.returned (.int .i64 (tV c))/\w'=w:=by
 by_cases h1:97<=c/\c<=122
 ·rw[zC3 h1];obtain⟨_,_⟩:=h1
  go_enter Tryz.func173,Tryz.ntmps173
  go_wp2
  all_goals (go_ret;exact⟨rfl,rfl⟩)
 ·by_cases h2:48<=c/\c<=57
  ·rw[zC2 h2];obtain⟨_,_⟩:=h2;clear h1
   go_enter Tryz.func173,Tryz.ntmps173
   go_wp2
   all_goals (go_ret;exact⟨rfl,rfl⟩)
  ·by_cases h3:c=32\/c=10
   ·rw[zC1 h3]
    rcases h3 with rfl|rfl <;> clear h1 h2
    all_goals
     go_enter Tryz.func173,Tryz.ntmps173
     go_wp2
     go_ret;exact⟨rfl,rfl⟩
   ·rw[zC4 h1 h2 h3]
    have e1:(c==32)=false:=by simp;omega
    have e2:(c==10)=false:=by simp;omega
    clear h3
    go_enter Tryz.func173,Tryz.ntmps173
    go_wp2
    all_goals (go_ret;exact⟨rfl,rfl⟩)
theorem nT(l s:Bs)(w:World)(hl:l.length<=4000) :
 Calls Tryz.prog 180 #[.string ⟨l.toArray⟩,.string ⟨s.toArray⟩] w fun e w'=>e=.returned (.bool (xY l s))/\w'=w:=by
 go_enter Tryz.func180,Tryz.ntmps180
 go_wp2
 go_loop [5,6] (fun av iv=>∃a k:Nat,a<=k/\k<=l.length+1/\av=.int .i64 a/\iv=.int .i64 k/\Hid (KK l s (l.length+1-k) a k=xY l s)) (fun _ iv=>l.length+1-(intOf iv).toNat)
 case atStart=>exact⟨0,0,t9 _,tr _,rfl,rfl,rfl⟩
 case round =>
  obtain⟨a,k,hak,hk,rfl,rfl,hH⟩:=hrel;by_cases zI6:k<=l.length
  ·by_cases he:k=l.length\/l.getD k 0=32
   ·by_cases h2:(l.drop a).take (k-a)=s
    ·have H:=hH.out;rw[zEB zI6 he h2]at H
     have HF:Hid (xY l s=true):=H.symm;have h3:(((ByteArray.mk l.toArray).extract a k).toList==s)=true:=by rw[ByteArray.extract_mk];simpa using h2
     rcases he with he|he
     ·clear hH H h2;subst he
      go_wp2
      go_ret;exact⟨zE HF.out.symm,rfl⟩
     ·by_cases he0:k=l.length
      ·clear hH H h2 he;subst he0
       go_wp2
       go_ret;exact⟨zE HF.out.symm,rfl⟩
      have zIV:k<l.length:=by omega
      have he1:((k:Int)==(l.length:Int))=false:=by simp;omega
      have hc:∀h,(((ByteArray.mk l.toArray)[k]'h).toNat:Int)=32:=by intro h;rw[oI,he];rfl
      clear hH H h2 he he0
      go_wp2
      all_goals (go_ret;exact⟨zE HF.out.symm,rfl⟩)
    ·have H:=hH.out;rw[zB0 zI6 he h2]at H
     have HF:Hid (KK l s (l.length+1-(k+1)) (k+1) (k+1)=xY l s):=H;have h3:(((ByteArray.mk l.toArray).extract a k).toList==s)=false:=by rw[ByteArray.extract_mk];simpa using h2
     by_cases he0:k=l.length
     ·clear hH H h2 he;subst he0
      go_wp2
      go_round
      case rel=>exact⟨l.length+1,l.length+1,by omega,by omega,by go_num,by go_num,HF.out⟩
      case measure=>simp[intOf]
     ·have he:l.getD k 0=32:=by rcases he with he|he;exact absurd he he0;exact he
      have zIV:k<l.length:=by omega
      have he1:((k:Int)==(l.length:Int))=false:=by simp;omega
      have hc:∀h,(((ByteArray.mk l.toArray)[k]'h).toNat:Int)=32:=by intro h;rw[oI,he];rfl
      clear hH H h2 he he0
      go_wp2
      go_round
      case rel=>exact⟨k+1,k+1,by omega,by omega,by go_num,by go_num,HF.out⟩
      case measure=>simp[intOf];omega
   ·have H:=hH.out;rw[zGU zI6 he]at H
    have HF:Hid (KK l s (l.length+1-(k+1)) a (k+1)=xY l s):=H;have zIV:k<l.length:=by omega
    have he1:((k:Int)==(l.length:Int))=false:=by simp;omega
    have hc:∀h,((((ByteArray.mk l.toArray)[k]'h).toNat:Int)==32)=false:=by
     intro h;rw[oI];rw[ff];intro hh;exact he (.inr ((Xe _ 32).1 hh))
    clear hH H he
    go_wp2
    go_round
    case rel=>exact⟨a,k+1,by omega,by omega,by go_num,by go_num,HF.out⟩
    case measure=>simp[intOf];omega
  ·have H:=hH.out;rw[zEC zI6]at H
   have HF:Hid (xY l s=false):=H.symm;clear hH H
   go_wp2
   go_ret;exact⟨zE HF.out.symm,rfl⟩
theorem oJ(l:Bs)(k:Nat)(h:k<(ByteArray.mk l.toArray).size):(((ByteArray.mk l.toArray)[k]'h).toNat:Int)=((l.getD k 0).toNat:Int):=by rw[oI]
theorem kU(c k:Int)(h:tV c=k)(w:World) :
 Calls Tryz.prog 173 #[.int .u8 c] w fun e w'=>e=.returned (.int .i64 k)/\w'=w:=by
 subst h;exact ub c w
theorem nS(l s:Bs)(b:Bool)(hb:xY l s=b)(w:World)(hl:l.length<=4000) :
 Calls Tryz.prog 180 #[.string ⟨l.toArray⟩,.string ⟨s.toArray⟩] w fun e w'=>e=.returned (.bool b)/\w'=w:=by
 subst hb;exact nT l s w hl
theorem DX(h:so (l.getD 0 0)=k):∀h:0<l.length,tV ((l[0]'h).toNat:Int)=k:=by
 intro h0;rw[<-h];simp[so,List.getD,h0]
theorem zES(h:so (l.getD i 0)=k):∀h:i<(ByteArray.mk l.toArray).size,tV (((ByteArray.mk l.toArray)[i]'h).toNat:Int)=k:=by
 intro h0;rw[<-h,oI];rfl
theorem VN(l:Bs)(w:World)(h0:0<l.length)(hl:l.length<=4000) :
 Calls Tryz.prog 172 #[.string ⟨l.toArray⟩] w fun e w'=>e=.returned (.int .i64 (uC l:Nat))/\w'=w:=by
 obtain⟨k,hk⟩:∃k,so (l.getD 0 0)=k:=⟨_,rfl⟩;have HK:Hid (∀h:0<l.length,tV ((l[0]'h).toNat:Int)=k):=DX hk;by_cases hz:k=0
 ·subst hz
  by_cases h2:1<l.length
  ·cases ha:xY lJ (l.take 2)
   ·have HF:Hid (uC l=1):=by unfold Hid uC;rw[tl hk,tg (by simp[Vi,h2,ha])]
    have HA:Hid (xY lJ (l.take 2)=false):=ha;clear ha hk
    go_enter Tryz.func172,Tryz.ntmps172
    go_wp2_with (first
     | (go_at_call 173;refine(kU _ 0 (HK.out h0) _).mono ?_;rintro e w' ⟨rfl,rfl⟩)
     | (go_at_call 180;(try rw[ByteArray.extract_mk]);refine(nS lJ (l.take 2) false HA.out _ (by decide)).mono ?_;rintro e w' ⟨rfl,rfl⟩))
    go_ret;exact⟨zY (by rw[HF.out];rfl),rfl⟩
   ·have HF:Hid (uC l=2):=by unfold Hid uC;rw[tl hk,tl (by simp[Vi,h2,ha])]
    have HA:Hid (xY lJ (l.take 2)=true):=ha;clear ha hk
    go_enter Tryz.func172,Tryz.ntmps172
    go_wp2_with (first
     | (go_at_call 173;refine(kU _ 0 (HK.out h0) _).mono ?_;rintro e w' ⟨rfl,rfl⟩)
     | (go_at_call 180;(try rw[ByteArray.extract_mk]);refine(nS lJ (l.take 2) true HA.out _ (by decide)).mono ?_;rintro e w' ⟨rfl,rfl⟩))
    go_ret;exact⟨zY (by rw[HF.out];rfl),rfl⟩
  ·have HF:Hid (uC l=1):=by unfold Hid uC;rw[tl hk,tg (by simp[Vi,h2])]
   clear hk
   go_enter Tryz.func172,Tryz.ntmps172
   go_wp2_with (go_at_call 173;refine(kU _ 0 (HK.out h0) _).mono ?_;rintro e w' ⟨rfl,rfl⟩)
   go_ret;exact⟨zY (by rw[HF.out];rfl),rfl⟩
 ·have HF:Hid (uC l=1+tJ k (l.drop 1)):=by unfold Hid uC;rw[tg (by rw[hk];exact hz),hk]
  have hz':(k==0)=false:=by simp[hz]
  clear hk hz
  go_enter Tryz.func172,Tryz.ntmps172
  go_wp2_with (go_at_call 173;refine(kU _ k (HK.out h0) _).mono ?_;rintro e w' ⟨rfl,rfl⟩)
  go_loop [4] (fun nv=>∃i:Nat,1<=i/\i<=l.length/\nv=.int .i64 i/\Hid (i+tJ k (l.drop i)=1+tJ k (l.drop 1))) (fun nv=>l.length-(intOf nv).toNat)
  case atStart=>exact⟨1,t9 _,h0,rfl,rfl⟩
  case round =>
   obtain⟨i,h1,hi,rfl,HI⟩:=hrel;by_cases zI6:i<l.length
   ·obtain⟨q,hq⟩:∃q,so (l.getD i 0)=q:=⟨_,rfl⟩
    have HQ:Hid (∀h:i<(ByteArray.mk l.toArray).size,tV (((ByteArray.mk l.toArray)[i]'h).toNat:Int)=q):=zES hq;by_cases he:q=k
    ·subst he
     have HN:Hid ((i+1)+tJ q (l.drop (i+1))=1+tJ q (l.drop 1)):=by have:=HI.out;rw[Kd zI6 hq]at this;exact this
     clear hq HI
     go_wp2_with (go_at_call 173;refine(kU _ q (HQ.out _) _).mono ?_;rintro e w' ⟨rfl,rfl⟩)
     go_round
     case rel=>exact⟨i+1,by omega,by omega,by go_num,HN.out⟩
     case measure=>simp[intOf];omega
    ·have HN:Hid (uC l=i):=by have:=HI.out;rw[Xx zI6 (by rw[hq];exact he)]at this;unfold Hid;rw[HF.out];omega
     have he':(q==k)=false:=by simp[he]
     clear hq HI he
     go_wp2_with (go_at_call 173;refine(kU _ q (HQ.out _) _).mono ?_;rintro e w' ⟨rfl,rfl⟩)
     go_ret;exact⟨zY (by rw[HN.out]),rfl⟩
   ·have HN:Hid (uC l=i):=by have:=HI.out;rw[Xy zI6]at this;unfold Hid;rw[HF.out];omega
    clear HI;go_wp2_with fail
    go_ret;exact⟨zY (by rw[HN.out]),rfl⟩
theorem yS{a b:Bs}(h:a=b):Ending.returned (.string ⟨a.toArray⟩)=.returned (.string ⟨b.toArray⟩):=by rw[h]
theorem zDN{c:UInt8}(h:l.getD 0 0=c):∀h:0<l.length,(((l[0]'h).toNat:Int))=(c.toNat:Int):=by
 intro h0;rw[<-h];simp[List.getD,h0]
theorem zw(l:Bs)(w:World)(h0:0<l.length)(hl:l.length<=4000) :
 Calls Tryz.prog 174 #[.string ⟨l.toArray⟩] w fun e w'=>e=.returned (.string ⟨(zS l).toArray⟩)/\w'=w:=by
 obtain⟨k,hk⟩:∃k,so (l.getD 0 0)=k:=⟨_,rfl⟩;have HK:Hid (∀h:0<l.length,tV ((l[0]'h).toNat:Int)=k):=DX hk;by_cases h1:k=1
 ·subst h1
  by_cases h8:8<l.length
  ·have HF:Hid (zS l=YI):=by unfold Hid zS;rw[tl hk,tl h8]
   clear hk
   go_enter Tryz.func174,Tryz.ntmps174
   go_wp2_with (go_at_call 173;refine(kU _ 1 (HK.out h0) _).mono ?_;rintro e w' ⟨rfl,rfl⟩)
   go_ret;exact⟨yS (by rw[HF.out];rfl),rfl⟩
  ·cases ha:xY pP l
   ·have HF:Hid (zS l=yU):=by unfold Hid zS;rw[tl hk,tg h8,tg (by simp[ha])]
    have HA:Hid (xY pP l=false):=ha;clear hk ha
    go_enter Tryz.func174,Tryz.ntmps174
    go_wp2_with (first
     | (go_at_call 173;refine(kU _ 1 (HK.out h0) _).mono ?_;rintro e w' ⟨rfl,rfl⟩)
     | (go_at_call 180;refine(nS pP l false HA.out _ (by decide)).mono ?_;rintro e w' ⟨rfl,rfl⟩))
    go_ret;exact⟨yS (by rw[HF.out];rfl),rfl⟩
   ·have HF:Hid (zS l=l):=by unfold Hid zS;rw[tl hk,tg h8,tl ha]
    have HA:Hid (xY pP l=true):=ha;clear hk ha
    go_enter Tryz.func174,Tryz.ntmps174
    go_wp2_with (first
     | (go_at_call 173;refine(kU _ 1 (HK.out h0) _).mono ?_;rintro e w' ⟨rfl,rfl⟩)
     | (go_at_call 180;refine(nS pP l true HA.out _ (by decide)).mono ?_;rintro e w' ⟨rfl,rfl⟩))
    go_ret;exact⟨yS (by rw[HF.out]),rfl⟩
 ·have h1':(k==1)=false:=by simp[h1]
  by_cases h2:k=2
  ·subst h2
   by_cases h4:4<l.length
   ·have HF:Hid (zS l=YI):=by unfold Hid zS;rw[tg (by rw[hk];decide),tl hk,tl (.inl h4)]
    clear hk
    go_enter Tryz.func174,Tryz.ntmps174
    go_wp2_with (go_at_call 173;refine(kU _ 2 (HK.out h0) _).mono ?_;rintro e w' ⟨rfl,rfl⟩)
    go_ret;exact⟨yS (by rw[HF.out];rfl),rfl⟩
   ·by_cases h5:1<l.length
    ·by_cases h6:l.getD 0 0=48
     ·have HF:Hid (zS l=YI):=by unfold Hid zS;rw[tg (by rw[hk];decide),tl hk,tl (.inr ⟨h5,h6⟩)]
      have h7:∀h,(((ByteArray.mk l.toArray)[0]'h).toNat:Int)=48:=by intro h;rw[oJ,h6];rfl
      clear hk
      go_enter Tryz.func174,Tryz.ntmps174
      go_wp2_with (go_at_call 173;refine(kU _ 2 (by first|exact HK.out h0|(have e1:=HK.out h0;rw[zDN h6 h0]at e1;exact e1)) _).mono ?_;rintro e w' ⟨rfl,rfl⟩)
      go_ret;exact⟨yS (by rw[HF.out];rfl),rfl⟩
     ·have HF:Hid (zS l=yB):=by unfold Hid zS;rw[tg (by rw[hk];decide),tl hk,tg (by intro hh;rcases hh with hh|hh;exact h4 hh;exact h6 hh.2)]
      have h7:∀h,((((ByteArray.mk l.toArray)[0]'h).toNat:Int)==48)=false:=by
       intro h;rw[ff];intro hh;apply h6;rw[oJ]at hh;exact(Xe _ 48).1 hh
      clear hk
      go_enter Tryz.func174,Tryz.ntmps174
      go_wp2_with (go_at_call 173;refine(kU _ 2 (HK.out h0) _).mono ?_;rintro e w' ⟨rfl,rfl⟩)
      go_ret;exact⟨yS (by rw[HF.out];rfl),rfl⟩
    ·have HF:Hid (zS l=yB):=by unfold Hid zS;rw[tg (by rw[hk];decide),tl hk,tg (by omega)]
     clear hk
     go_enter Tryz.func174,Tryz.ntmps174
     go_wp2_with (go_at_call 173;refine(kU _ 2 (HK.out h0) _).mono ?_;rintro e w' ⟨rfl,rfl⟩)
     go_ret;exact⟨yS (by rw[HF.out];rfl),rfl⟩
  ·have h2':(k==2)=false:=by simp[h2]
   cases ha:xY bF l
   ·have HF:Hid (zS l=YI):=by unfold Hid zS;rw[tg (by rw[hk];exact h1),tg (by rw[hk];exact h2),tg (by simp[ha])]
    have HA:Hid (xY bF l=false):=ha;clear hk ha h1 h2
    go_enter Tryz.func174,Tryz.ntmps174
    go_wp2_with (first
     | (go_at_call 173;refine(kU _ k (HK.out h0) _).mono ?_;rintro e w' ⟨rfl,rfl⟩)
     | (go_at_call 180;refine(nS bF l false HA.out _ (by decide)).mono ?_;rintro e w' ⟨rfl,rfl⟩))
    go_ret;exact⟨yS (by rw[HF.out];rfl),rfl⟩
   ·have HF:Hid (zS l=l):=by unfold Hid zS;rw[tg (by rw[hk];exact h1),tg (by rw[hk];exact h2),tl ha]
    have HA:Hid (xY bF l=true):=ha;clear hk ha h1 h2
    go_enter Tryz.func174,Tryz.ntmps174
    go_wp2_with (first
     | (go_at_call 173;refine(kU _ k (HK.out h0) _).mono ?_;rintro e w' ⟨rfl,rfl⟩)
     | (go_at_call 180;refine(nS bF l true HA.out _ (by decide)).mono ?_;rintro e w' ⟨rfl,rfl⟩))
    go_ret;exact⟨yS (by rw[HF.out]),rfl⟩
end Go.Proofs.YtnbpdffdnphbeaaGreatDoor
