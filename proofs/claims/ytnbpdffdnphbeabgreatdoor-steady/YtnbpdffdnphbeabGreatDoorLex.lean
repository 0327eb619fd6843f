import Derived.Laws.Strings2
import Derived.Test.YtnbpdffdnphbeabGreatDoorProg
import Derived.WalkKit
import Derived.WalkSpells
import Derived.WalkLawsBesides
open Go.Proofs.Tryz
set_option maxHeartbeats 400000
namespace Go.Proofs.YtnbpdffdnphbeabGreatDoor
open Go.RowKit
theorem fm:∀(n:Nat),(n:Int).toNat=n:=@Int.toNat_natCast
theorem ge:∀{α:Type _},([]:List α).length=0:=@List.length_nil
theorem gk:∀{α:Type _}{β:Type _}{a b:α}(f:α->β),a=b->f a=f b:=@congrArg
theorem nf:∀(n:Nat),0<=(n:Int):=@Int.natCast_nonneg
theorem nl:∀{n:Nat},(List.range n).length=n:=@List.length_range
theorem oe:∀{fn:Func},fn.results=#[]->∀(tmps:Array Value) (P:Program) (w:World),Sem.run P (results fn tmps) w=.ok (.tuple #[]) w:=@results_none
theorem i6{c:Prop}{_:Decidable c}{α:Sort _}{t e:α}(h:¬c:=by first|omega|decide):(if c then t else e)=e:=if_neg h
theorem u'{c:Prop}{_:Decidable c}{α:Sort _}{t e:α}(h:c:=by first|omega|decide):(if c then t else e)=t:=if_pos h
theorem x'{a b:Prop}(h:a)(g:¬a):b:=absurd h g
theorem M'{a b:Prop}(h:a)(g:¬a:=by decide):b:=absurd h g
theorem tg:∀(n:Nat),n<=n:=@Nat.le_refl
theorem tj:∀{c:Prop}{_:Decidable c},¬c->∀{α:Sort _}{t e:α},(if c then t else e)=e:=@if_neg
theorem tl:∀(B:Nat) (w:World),Below B w w:=@Below.refl
theorem tm:∀{α:Type _}{aB bs:List α},(aB++bs).length=aB.length+bs.length:=@List.length_append
theorem tq:∀{n m k:Nat},n < m->m<=k->n < k:=@Nat.lt_of_lt_of_le
theorem tr:∀{c:Prop}{_:Decidable c},c->∀{α:Sort _}{t e:α},(if c then t else e)=t:=@if_pos
theorem tu:∀{n m k:Nat},n<=m->m<=k->n<=k:=@Nat.le_trans
theorem ty:∀{p:Prop} [Decidable p],¬p->decide p=false:=@decide_eq_false
theorem tz:∀{p:Prop} [Decidable p],p->decide p=true:=@decide_eq_true
theorem p7:∀{n m:Nat},n < m->n<=m:=@Nat.le_of_lt
theorem p8:∀{n:Nat},0<=n:=@Nat.zero_le
theorem p9:∀(w:World) (g i:Nat) (cs:Array Value) (t:TypeId) (v:Value),w.heap[g]?=some (Obj.cells cs t)->(w.setCell { block := g,off := i } v).heap[g]?=some (Obj.cells (cs.setIfInBounds i v) t):=@heap_setCell_same
theorem pb:∀{α:Type _}{a:α}{aB:List α},(a::aB).length=aB.length+1:=@List.length_cons
theorem pd:∀{α:Type _}{β:Type _}{b:β}{f:α->β}{l:List α},b∈List.map f l↔∃ (a:α),a∈l/\f a=b:=@List.mem_map
theorem pe:∀{P:Program}{fn:Func}{R:Ending->World->Prop}{a:Act}{w:World}{v:Value},Sem.run P (results fn a.tmps) w=Result.ok v w->a.defers=[]->R (Ending.returned v) w->bodyPost P fn R Exit.ret a w:=@bodyPost_ret
theorem pf:∀{α:Type _}{aB:List α}{i:Nat},aB.length<=i->List.drop i aB=[]:=@List.drop_eq_nil_of_le
theorem ph:∀{α:Type _}{i:Nat}{l:List α} (_:i < l.length),List.drop i l=l[i]::List.drop (i+1) l:=@List.drop_eq_getElem_cons
theorem pi:∀{α:Type _}{b:α}{l:List α}{a:α},a∈b::l↔a=b\/a∈l:=@List.mem_cons
theorem pj:∀{α:Type _}{a:α}{s t:List α},a∈s++t↔a∈s\/a∈t:=@List.mem_append
theorem pm:∀{α:Type _}{l:List α}{i:Nat} (_:i < l.length),l[i]?=some l[i]:=@List.getElem?_eq_getElem
theorem po:∀{α:Type _} (aB bs cs:List α),aB++bs++cs=aB++(bs++cs):=@List.append_assoc
theorem pq:∀(w:World) (g j:Nat) (cs:Array Value) (t:TypeId) (fr:Nat × Nat),w.heap[g]?=some (Obj.cells cs t fr)->w.cell? { block := g,off := j }=cs[j]?:=@cell_of_row
theorem pr:∀{α:Type _}{a b:α},a∈[b]↔a=b:=@List.mem_singleton
theorem pt:∀{α:Type _}{β:Type _}{aB:List α} (f:α->β),(List.map f aB).length=aB.length:=@List.length_map
theorem pu:∀{α:Type _}{a:α},[a].length=1:=@List.length_singleton
theorem pw:∀{α:Type _}{i:Nat}{xs:Array α},xs.size<=i->xs[i]?=none:=@Array.getElem?_eq_none
theorem py:∀{α:Type _} (y:α) {a:α}{l:List α},a∈l->a∈y::l:=@List.mem_cons_of_mem
theorem ma:∀(a b:Bool),((a && b)=true)=(a=true/\b=true):=@Bool.and_eq_true
theorem mc:∀(n m:Nat),n < m\/n≥m:=@Nat.lt_or_ge
theorem md:∀{B:Nat}{a w:World},Below B a w->Below B a w.drew:=@Below.drew
theorem me:∀{m n:Nat},m∈List.range n↔m < n:=@List.mem_range
theorem mh:∀(n:Nat),n < n.succ:=@Nat.lt_succ_self
theorem mj:∀{α:Type _}{aA gb:List α}{i:Nat},i < aA.length->(aA++gb)[i]?=aA[i]?:=@List.getElem?_append_left
theorem ml:∀{p:Prop} [Decidable p],(decide p=true)=p:=@decide_eq_true_eq
theorem mq:∀{α:Type _}{l:List α}{i:Nat}{a:α},l.getD i a=l[i]?.getD a:=@List.getD_eq_getElem?_getD
theorem ms:∀{n:Nat}(k:Nat),n<=n+k:=@Nat.le_add_right
theorem mt:∀{α:Type _} (aB:List α),aB++[]=aB:=@List.append_nil
theorem mu:∀{α:Type _}{p:α->Bool}{aB:List α}{x:α},x∈List.filter p aB↔x∈aB/\p x=true:=@List.mem_filter
theorem mw:∀{α:Type _}{p:α->Bool}{l:List α},l.any p=true↔∃ (x:α),x∈l/\p x=true:=@List.any_eq_true
theorem my:∀(n:Nat),n<=n.succ:=@Nat.le_succ
theorem mz:∀{a:Int},0<=a->∃ (n:Nat),a = ↑n:=@Int.eq_ofNat_of_zero_le
theorem l5:∀{α:Type _}{l:List α},l.length=0->l=[]:=@List.eq_nil_of_length_eq_zero
theorem l6:∀(w:World) (a:Addr) (u:Value) (k:Nat),k≠a.block->(w.setCell a u).heap[k]?=w.heap[k]?:=@Below.heap_setCell
theorem l8:∀{α:Type _}{aA gb:List α}{i:Nat},aA.length<=i->(aA++gb)[i]?=gb[i - aA.length]?:=@List.getElem?_append_right
theorem l9:∀(w:World)(g:Nat)(old:Array Value)(cs:Array Value){t:TypeId}{fr:Nat × Nat},w.heap[g]?=some (Obj.cells old t fr)->(w.setRow g cs).heap[g]?=some (Obj.cells cs t fr):=@setRow_heap
theorem ld:∀(w:World){o:Obj}(k:Nat),k < w.heap.size->(w.alloc o).heap[k]?=w.heap[k]?:=@Below.heap_alloc
theorem lh:∀(n:Nat),n+0=n:=@Nat.add_zero
theorem li:∀{α:Type _}{a:α}{aB bs:List α},a::aB++bs=a::(aB++bs):=@List.cons_append
theorem lj:∀{α:Type _} [BEq α] [LawfulBEq α] {a b:α},(a == b)=false↔a≠b:=@beq_eq_false_iff_ne
theorem lk:∀{α:Type _}{β:Type _}{xs ys:List α}{f:α->List β},List.flatMap f (xs++ys)=List.flatMap f xs++List.flatMap f ys:=@List.flatMap_append
theorem lq:∀{α:Type _}{a:α},¬a∈[]:=@List.not_mem_nil
theorem lu:∀{α:Type _} (aB:List α),[]++aB=aB:=@List.nil_append
theorem ly:∀(w:World) (base:Nat) (e:TypeId) (size:Nat),w.ownsRow base e size (Value.slice none 0 0) 0 []:=@World.ownsRow_nil
theorem bf:∀{n:Nat},List.range n.succ=List.range n++[n]:=@List.range_succ
theorem bg:∀{α:Type _}{β:Type _}{f:α->List β}{b:β}{l:List α},b∈List.flatMap f l↔∃ (a:α),a∈l/\b∈f a:=@List.mem_flatMap
theorem bh:∀(w:World) (a:Addr) (k:Nat) (v:Value),k≠a.block->(w.setCell a v).heap[k]?=w.heap[k]?:=@heap_setCell_other
theorem bi:∀{α:Type _} (val aC:α),(some val=some aC)=(val=aC):=@Option.some.injEq
theorem bj:∀{α:Type _}{β:Type _}{f:α->β}{aA gb:List α},List.map f (aA++gb)=List.map f aA++List.map f gb:=@List.map_append
theorem bm:∀(b:Bool),(true && b)=b:=@Bool.true_and
theorem bp:∀(a:Int),a<=a:=@Int.le_refl
theorem bq:∀{w w':World}{a:Addr},w'.heap[a.block]?=w.heap[a.block]?->w'.cell? a=w.cell? a:=@World.cell?_of_block
theorem bt:∀(b:Bool),(false || b)=b:=@Bool.false_or
theorem bw:∀{α:Type _}{a:α}{l:List α},a∈a::l:=@List.mem_cons_self
theorem cb:∀{α:Type _}{xs:List α}{i:Nat},xs.toArray[i]?=xs[i]?:=@List.getElem?_toArray
theorem cd:∀{p:Prop} [Decidable p],decide p=true↔p:=@decide_eq_true_iff
theorem ce:∀(a b:Bool),((a || b)=true)=(a=true\/b=true):=@Bool.or_eq_true
theorem cf:∀{α:Type _}{β:Type _}{f:α->β}{a:α}{l:List α},List.map f (a::l)=f a::List.map f l:=@List.map_cons
theorem cg:∀{α:Type _}{β:Type _}{x:α}{xs:List α}{f:α->List β},List.flatMap f (x::xs)=f x++List.flatMap f xs:=@List.flatMap_cons
theorem co:∀{α:Type _}{l:List α},List.take l.length l=l:=@List.take_length
theorem cp:∀{α:Type _}{i:Nat}{l:List α},(List.drop i l).length=l.length - i:=@List.length_drop
theorem cq:∀{α:Type _}{i:Nat}{l:List α},(List.take i l).length=min i l.length:=@List.length_take
theorem cr:∀{p:Prop} [Decidable p],decide p=true->p:=@of_decide_eq_true
theorem ct:∀(a:Option Addr) (len cap:Nat) (aH:Option Addr) (aD aF:Nat),(Value.slice a len cap=Value.slice aH aD aF)=(a=aH/\len=aD/\cap=aF):=@Value.slice.injEq
theorem cw:∀(n:Nat),0+n=n:=@Nat.zero_add
theorem cy:∀{n:Nat}{α:Type _}{a:α}{i:Nat},(List.replicate n a)[i]?=if i < n then some a else none:=@List.getElem?_replicate
theorem da:∀{α:Type _}{xs:Array α}{i:Nat},xs.toList[i]?=xs[i]?:=@Array.getElem?_toList
theorem db:∀(a b:Int),a < b\/b<=a:=@Int.lt_or_le
theorem dc:∀{α:Type _}{l:List α}{i:Nat},List.take (i+1) l=List.take i l++l[i]?.toList:=@List.take_add_one
theorem df:∀(p:Prop),(p\/False)=p:=@or_false
theorem dg:∀(n m k:Nat),n+m+k=n+(m+k):=@Nat.add_assoc
theorem di:(!false)=true:=@Bool.not_false
theorem dj:∀{α:Sort _}{_:Decidable True} (t e:α),(if True then t else e)=t:=@if_true
theorem dk:∀{p:Prop}{_:Decidable p},decide p=false↔¬p:=@decide_eq_false_iff_not
theorem dl:∀{α:Type _}{i:Nat}{a:α}{l:List α},l[i]?=some a↔∃ (_:i < l.length),l[i]=a:=@List.getElem?_eq_some_iff
theorem dm:∀{w w':World}{a:Addr},w'.heap[a.block]?=w.heap[a.block]?->w'.frozen? a=w.frozen? a:=@World.frozen?_of_block
theorem dn:∀{α:Type _}{a:α}{l:List α},(a::l)[0]?=some a:=@List.getElem?_cons_zero
theorem dq:∀{α:Type _}{l:List α}{n:Nat} (_:n < l.length),l[n]∈l:=@List.getElem_mem
theorem dr:∀(_:Decidable False),decide False=false:=@decide_false
theorem dt:∀{α:Type _}{a:α}{i:Nat}{l:List α},(a::l)[i+1]?=l[i]?:=@List.getElem?_cons_succ
theorem du:∀{P:Program}{e:TypeId}{z:Value}{size bytes:Nat},Option.map (λ(i:TypeInfo)=>(i.zero,i.size,i.bytes)) (P.info? e)=some (some z,size,bytes)->∃ (i:TypeInfo),P.info? e=some i/\i.zero=some z/\i.size=size/\i.bytes=bytes:=@info_parts
theorem dw:∀{α:Type _}{l:List α}{i j:Nat},(List.take i l)[j]?=if j < i then l[j]? else none:=@List.getElem?_take
theorem dy:∀{x y:Bool},(x || y)=false↔x=false/\y=false:=@Bool.or_eq_false_iff
theorem dz:∀{α:Type _}{a:α}{l:List α},a∈l->∃ (i:Nat),∃ (_:i < l.length),l[i]=a:=@List.getElem_of_mem
theorem f0:∀{α:Type _} (p:α->Bool) (l:List α),(List.filter p l).length<=l.length:=@List.length_filter_le
theorem f8:∀{α:Type _}{i:Nat}{l:List α},l.length<=i->List.take i l=l:=@List.take_of_length_le
theorem fa:∀(n:Nat),0*n=0:=@Nat.zero_mul
theorem fb:∀{α:Type _}{p:α->Bool} (aA gb:List α),List.filter p (aA++gb)=List.filter p aA++List.filter p gb:=@List.filter_append
theorem fd:∀{x y:Bool},(x && y)=false↔x=false\/y=false:=@Bool.and_eq_false_iff
theorem fe:∀{α:Type _}{a:α}{l:List α}{f:α->Bool},(a::l).any f=(f a || l.any f):=@List.any_cons
theorem ff:∀{α:Type _}{a:α}{l:List α}{f:α->Bool},(a::l).all f=(f a && l.all f):=@List.all_cons
theorem fg:∀{α:Type _}{xs ys:Array α}{i:Nat},i < xs.size->(xs++ys)[i]?=xs[i]?:=@Array.getElem?_append_left
theorem fj:∀{a b:Nat},b < a->a≠b:=@Nat.ne_of_gt
theorem fk{B:Nat}{w:World}(h:B<=w.heap.size)(o:Obj):Below B w (w.alloc o):=(Below.refl _ _).alloc h o
variable{i:Nat}
def sU(c:Int):Bool:=c==32 || c==10
def gB(c:Int):Bool:=decide (97<=c)&&decide (c<=122)
def sS(c:Int):Bool:=decide (48<=c)&&decide (c<=57)
def XK(c:Int):Int:=if 97<=c/\c<=122 then 1 else if 48<=c/\c<=57 then 2 else if c=32\/c=10 then 3 else 0
abbrev Bs:=List UInt8
theorem Vu(l:Bs)(k:Nat)(h:k<(ByteArray.mk l.toArray).size):(ByteArray.mk l.toArray)[k]=l.getD k 0:=by
 have h':k<l.length:=by have h1:k<l.toArray.size:=h;simpa using h1
 have e:(ByteArray.mk l.toArray)[k]=l.toArray[k]'(by simpa using h'):=rfl;rw[e];simp[List.getD,h']
theorem G4(c d:UInt8):(((c.toNat:Int)==(d.toNat:Int))=true) ↔ c=d:=by
 rw[beq_iff_eq];constructor
 ·intro h;exact UInt8.toNat_inj.1 (by omega)
 ·intro h;rw[h]
def Ad(l s:Bs):Nat->Nat->Nat->Bool
 | 0,_,_=>false
 | n+1,a,i=>if i=l.length\/l.getD i 0=32 then (if (l.drop a).take (i-a)=s then true else Ad l s n (i+1) (i+1)) else Ad l s n a (i+1)
def mI(l s:Bs):Bool:=Ad l s (l.length+1) 0 0
def so(c:UInt8):Int:=XK (c.toNat:Int)
def pX(k:Int):Bs->Nat
 | []=>0
 | c::r=>if so c=k then pX k r+1 else 0
theorem Ol(k:Int)(l:Bs):pX k l<=l.length:=by
 induction l with
 | nil=>simp[pX]
 | cons c r ih=>simp only[pX];split <;> simp <;> omega
theorem Yt(l:Bs)(k:Nat)(h:k<l.length):l.drop k=l.getD k 0::l.drop (k+1):=by
 rw[ph h];simp[List.getD,h]
theorem FB{k:Int}{l:Bs}(h:i<l.length)(he:so (l.getD i 0)=k):i+pX k (l.drop i)=(i+1)+pX k (l.drop (i+1)):=by
 rw[Yt l i h,pX,tr he];omega
theorem Ug{k:Int}{l:Bs}(h:i<l.length)(he:¬so (l.getD i 0)=k):i+pX k (l.drop i)=i:=by
 rw[Yt l i h,pX,tj he];omega
theorem Uh{k:Int}{l:Bs}(h:¬i<l.length):i+pX k (l.drop i)=i:=by
 rw[pf (by omega)];rfl
def jY:Bs:=[46,46,32,60,61,32,33,61,32,62,61]
def aN:Bs:=[110,117,109,32,102,108,97,103,32,114,117,108,101,32,111,118,101,114,32,119,104,101,110,32,111,114,32,97,110,100,32,110,111,116,32,104,97,115,32,97,108,119,97,121,115]
def ZO:Bs:=[58,32,61,32,46,46,32,59,32,40,32,41,32,60,32,60,61,32,33,61,32,62,61,32,62,32,43,32,45,32,42]
def Cj(l:Bs):Bool:=decide (1<l.length)&&mI jY (l.take 2)
def uP(l:Bs):Nat:=if so (l.getD 0 0)=0 then (if Cj l=true then 2 else 1) else 1+pX (so (l.getD 0 0)) (l.drop 1)
theorem sK(l:Bs):1<=uP l:=by unfold uP;split <;> (try split) <;> omega
theorem Ga{l:Bs}(h:0<l.length):uP l<=l.length:=by
 unfold uP;split
 ·split
  ·rename_i _ h2;simp[Cj]at h2;omega
  ·omega
 ·have:=Ol (so (l.getD 0 0)) (l.drop 1);rw[cp]at this;omega
def B5:Bs:=[66,65,68]
def vC:Bs:=[78,65,77,69]
def vD:Bs:=[78,85,77,66,69,82]
def yE(l:Bs):Bs :=
 if so (l.getD 0 0)=1 then (if 8<l.length then B5 else if mI aN l=true then l else vC)
 else if so (l.getD 0 0)=2 then (if 4<l.length\/1<l.length/\l.getD 0 0=48 then B5 else vD)
 else if mI ZO l=true then l else B5
def uX:Nat->Bs->Nat->List (Nat × Bs)
 | 0,_,_=>[]
 | n+1,l,p=>if l.length=0 then [] else if so (l.getD 0 0)=3 then uX n (l.drop 1) (p+1) else (p,l.take (uP l))::uX n (l.drop (uP l)) (p+uP l)
theorem dV(n p:Nat):uX n [] p=[]:=by cases n <;> simp[uX]
theorem fW(n:Nat):∀(m:Nat) (l:Bs) (p:Nat),l.length<=n->l.length<=m->uX n l p=uX m l p:=by
 induction n with
 | zero=>intro m l p h _;have:l=[]:=l5 (by omega);subst this;rw[dV,dV]
 | succ n ih =>
   intro m l p hn hm
   cases m with
   | zero=>have:l=[]:=l5 (by omega);subst this;rw[dV,dV]
   | succ m =>
     simp only[uX];split
     ·rfl
     ·have:=sK l
      rw[ih m (l.drop 1) _ (by simp;omega) (by simp;omega),ih m (l.drop (uP l)) _ (by simp;omega) (by simp;omega)]
def xI(l:Bs)(p:Nat):List (Nat × Bs):=uX l.length (l.drop p) p
theorem Cm{l:Bs}{p:Nat}(h:¬p<l.length):xI l p=[]:=by
 unfold xI;rw[pf (by omega),dV]
theorem dO(l:Bs)(p i:Nat):(l.drop p).getD i 0=l.getD (p+i) 0:=by simp[List.getD]
theorem KC{l:Bs}{p:Nat}(h:p<l.length)(hb:so (l.getD p 0)=3):xI l p=xI l (p+1):=by
 unfold xI;rw[fW l.length (l.length+1) (l.drop p) p (by simp) (by simp;omega),uX,tj (by simp;omega),tr (by rw[dO];exact hb),List.drop_drop]
theorem Ck{l:Bs}{p:Nat}(h:p<l.length)(hb:¬so (l.getD p 0)=3):xI l p=(p,(l.drop p).take (uP (l.drop p)))::xI l (p+uP (l.drop p)):=by
 unfold xI;rw[fW l.length (l.length+1) (l.drop p) p (by simp) (by simp;omega),uX,tj (by simp;omega),tj (by rw[dO];exact hb),List.drop_drop]
theorem CN(n:Nat):∀(l:Bs) (p:Nat),(uX n l p).length<=l.length:=by
 induction n with
 | zero=>intro l p;simp[uX]
 | succ n ih =>
   intro l p;simp only[uX];split
   ·simp
   ·split
    ·have:=ih (l.drop 1) (p+1);simp at this ⊢;omega
    ·have h1:=ih (l.drop (uP l)) (p+uP l);have h2:=sK l
     rw[pb];rw[cp]at h1;omega
theorem oE(l:Bs)(p:Nat):(xI l p).length<=l.length:=by
 have:=CN l.length (l.drop p) p;unfold xI;simp at this;omega
def Az:List Bs:=[[108,105,110,101],[110,117,109],[110,117,109],[110,117,109],[78,65,77,69],[102,114,111,109],[102,114,111,109],[78,85,77,66,69,82],[116,111],[116,111],[46,46],[116,105,108,108],[116,105,108,108],[78,85,77,66,69,82],[101,110,100],[108,105,110,101],[102,108,97,103],[108,97,115,116],[108,97,115,116],[78,65,77,69],[101,110,100],[108,105,110,101],[111,118,101,114],[111,118,101,114],[111,118,101,114],[78,65,77,69],[108,97,115,116],[101,110,100],[59],[108,105,110,101],[108,105,110,101],[114,117,108,101],[114,117,108,101],[114,117,108,101],[78,65,77,69],[108,97,98,101,108],[108,97,98,101,108],[58],[99,111,108,111,110],[99,111,108,111,110],[78,65,77,69],[104,101,97,100],[104,101,97,100],[61],[112,97,114,116],[112,97,114,116],[78,65,77,69],[112,97,114,116,101,100],[112,97,114,116],[78,85,77,66,69,82],[99,111,117,110,116,101,100],[99,111,117,110,116,101,100],[42],[116,105,109,101,115],[99,111,117,110,116,101,100],[43],[112,97,114,116],[99,111,117,110,116,101,100],[45],[112,97,114,116],[99,111,117,110,116,101,100],[119,104,101,110],[102,97,99,116],[116,105,109,101,115],[78,65,77,69],[112,97,114,116,101,100],[112,97,114,116,101,100],[43],[112,97,114,116],[112,97,114,116,101,100],[45],[112,97,114,116],[112,97,114,116,101,100],[119,104,101,110],[102,97,99,116],[102,97,99,116],[110,111,116],[102,97,99,116],[102,97,99,116],[40],[102,97,99,116],[102,97,99,116],[97,108,119,97,121,115],[100,111,110,101],[102,97,99,116],[104,97,115],[104,97,115],[102,97,99,116],[78,65,77,69],[110,97,109,101,100],[104,97,115],[78,65,77,69],[100,111,110,101],[110,97,109,101,100],[60],[116,104,97,110],[110,97,109,101,100],[60,61],[116,104,97,110],[110,97,109,101,100],[61],[116,104,97,110],[110,97,109,101,100],[33,61],[116,104,97,110],[110,97,109,101,100],[62,61],[116,104,97,110],[110,97,109,101,100],[62],[116,104,97,110],[116,104,97,110],[78,65,77,69],[100,111,110,101],[116,104,97,110],[78,85,77,66,69,82],[100,111,110,101],[100,111,110,101],[111,114],[102,97,99,116],[100,111,110,101],[97,110,100],[102,97,99,116],[100,111,110,101],[41],[100,111,110,101],[100,111,110,101],[59],[108,105,110,101]]
def Qo(st cl:Bs):Nat->Nat->Bs
 | 0,_=>[]
 | n+1,i=>if Az.getD (i*3) []=st/\Az.getD (i*3+1) []=cl then Az.getD (i*3+2) [] else Qo st cl n (i+1)
def pK:Bs:=[108,105,110,101]
def bI:Bs:=[110,97,109,101,100]
def mM:Bs:=[100,111,110,101]
def tC:Bs:=[111,114]
def xW:Bs:=[97,110,100]
def vF:Bs:=[41]
def yS:Bs:=[40]
def qM:Bs:=[59]
def uN(st cl:Bs)(op:Int):Bs :=
 let aG:=if st=bI/\(cl=tC\/cl=xW\/cl=vF\/cl=qM) then mM else st
 if aG=mM/\(cl=vF/\op=0\/cl=qM/\0<op) then [] else Qo aG cl 43 0
def fE(len:Int):List (Nat × Bs)->Bs->Int->Int
 | [],st,_=>if st=pK then -1 else len
 | t::r,st,op=>if uN st (yE t.2) op=[] then (t.1:Int) else fE len r (uN st (yE t.2) op) (if yE t.2=yS then op+1 else if yE t.2=vF then op-1 else op)
def YN(l:Bs):Int:=fE l.length (xI l 0) pK 0
theorem zN(ts:List (Nat × Bs))(k:Nat)(h:k<ts.length:=by omega):ts.drop k=ts.getD k (0,[])::ts.drop (k+1):=by
 rw[ph h];simp[List.getD,h]
open Go.RowKit
theorem yY{k:IntKind}{a b:Int}(h:a=b):Ending.returned (.int k a)=.returned (.int k b):=by rw[h]
theorem zG{a b:Bool}(h:a=b):Ending.returned (.bool a)=.returned (.bool b):=by rw[h]
theorem UQ(c:Int)(w:World) :
 Calls prog 101 #[.int .u8 c] w λe w'=>e=.returned (.bool (sU c))/\w'=w:=by
 go_enter func101,ntmps101
 go_wp2
 all_goals (go_ret;exact⟨zG (by simp[sU, *]),rfl⟩)
theorem Vp(c:Int)(w:World) :
 Calls prog 144 #[.int .u8 c] w λe w'=>e=.returned (.bool (gB c))/\w'=w:=by
 go_enter func144,ntmps144
 go_wp2
 all_goals (go_ret;exact⟨zG (by simp[gB];try omega),rfl⟩)
theorem UP(c:Int)(w:World) :
 Calls prog 146 #[.int .u8 c] w λe w'=>e=.returned (.bool (sS c))/\w'=w:=by
 go_enter func146,ntmps146
 go_wp2
 all_goals (go_ret;exact⟨zG (by simp[sS];try omega),rfl⟩)
theorem ZE(l:Bs)(k:Nat)(h:k<(ByteArray.mk l.toArray).size):(((ByteArray.mk l.toArray)[k]'h).toNat:Int)=((l.getD k 0).toNat:Int):=by rw[Vu]
theorem pD{a b:Bs}(h:a=b):Ending.returned (.string ⟨a.toArray⟩)=.returned (.string ⟨b.toArray⟩):=by rw[h]
end Go.Proofs.YtnbpdffdnphbeabGreatDoor
