import Derived.Test.YtnbpdffdnphbeabGreatDoorMono
import Derived.Lib.AppendStr
import Derived.Test.YtnbpdffdnphbeabGreatDoorItoa
import Derived.WalkSmall
namespace Go.Proofs.YtnbpdffdnphbeabGreatDoor
open Go.RowKit
variable{ls:List LX}{a:Nat}{w:World}
def okT(x:Obj):Prop:=∀c t fz,x=.cells c t fz->t≠5/\t≠195
structure KT(W:Nat)(w w':World):Prop where
 below:Below W w w'
 kept:∀(k:Nat) (x:Obj),w.heap[k]? = some x->okT x->w'.heap[k]? = some x
def putB(out:Bs)(il:Bool)(t:Bs):Bs:=(match il with|true=>out++[32]|false=>out)++t
def zLA(w:World):Prop:=Lib.TabIs Tryz.prog w "internal/strconv.uint64pow10" .u64 Lib.pow10Tab
abbrev zHK:=Bs × Bool
theorem zLA.below{w':World}{W:Nat}(h:zLA w)(hg:∃g,Tryz.prog.globalNamed "internal/strconv.uint64pow10" = some g/\g<W)(hb:Below W w w'):zLA w':=by
 obtain⟨g,h1,h2⟩:=hg;exact var?_below hb h1 h2 h
theorem zg{k:Nat}{os:Array Obj}{i:Nat}{x:Obj}(h:w.heap[i]? = some x):(Sort.grow (w.drewN k) os).heap[i]? = some x:=by
 have hi:i<w.heap.size:=by
  rcases me i w.heap.size with h1|h1
  ·exact h1
  ·rw[md h1]at h;cases h
 have hd:(w.drewN k).heap=w.heap:=by simp
 rw[Sort.heap_grow_old _ _ (by rw[hd];exact hi),hd];exact h
theorem KT.growN{W:Nat}(k:Nat)(os:Array Obj)(hW:W<=w.heap.size):KT W w (Sort.grow (w.drewN k) os):=by
 have hd:(w.drewN k).heap=w.heap:=by simp
 refine⟨⟨rfl,by simp[Sort.grow],rfl,by simp[Sort.grow],fun i hi=>?_⟩,fun i x hx _=>zg hx⟩;rw[Sort.heap_grow_old _ _ (by rw[hd];omega),hd]
def YK(t:Bs)(st:zHK):zHK:=(putB st.1 st.2 t,true)
def wNum(n:Int)(st:zHK):zHK:=YK (Lib.itoa n) st
def zKH(x:zR)(st:zHK):zHK :=
 if x.kind=4 then YK [97,108,119,97,121,115] st
 else if x.kind=5 then YK x.name (YK [104,97,115] st)
 else if x.kind=6 then YK x.name st
 else if x.other.isEmpty=true then wNum x.num (YK x.mark (YK x.name st))
 else YK x.other (YK x.mark (YK x.name st))
def nz:zR:=⟨0,0,0,[],[],[],0⟩
def pP(N:List zR)(a:Nat):zR:=N.getD a nz
def dI(N:List zR):Prop:=∀a,a<N.length ->
 ((pP N a).kind=1->0<=(pP N a).left/\(pP N a).left<a/\0<=(pP N a).right/\(pP N a).right<a) /\
 ((pP N a).kind=2->0<=(pP N a).left/\(pP N a).left<a/\0<=(pP N a).right/\(pP N a).right<a) /\
 ((pP N a).kind=3->0<=(pP N a).left/\(pP N a).left<a) /\
 (¬(pP N a).kind=1->¬(pP N a).kind=2->¬(pP N a).kind=3->(4<=(pP N a).kind/\(pP N a).kind<=7)/\0<=(pP N a).num/\(pP N a).num<=9999)
structure KD(w:World)(gN:Nat)(yL:Array Value)(N:List zR):Prop where
 blk:w.heap[gN]? = some (.cells yL 238 (0,0))
 row:yL.toList.take (N.length*7)=fA N
theorem zo(N:List zR):∀i,i<N.length->∀j,j<7->(fA N)[i*7+j]? = (Xu (pP N i))[j]? := by
 induction N with
 | nil=>intro i h;simp at h
 | cons t r ih =>
   intro i h j hj;have e:fA (t::r)=Xu t++fA r:=by simp[fA]
   have hl:(Xu t).length=7:=rfl
   cases i with
   | zero=>rw[e,mu (by rw[hl];omega)];simp[pP]
   | succ i =>
     rw[e,li (by rw[hl];omega),hl,show (i+1)*7+j-7=i*7+j by omega,ih i (by simpa using h) j hj];simp[pP]
theorem KD.cells{gN:Nat}{yL:Array Value}{N:List zR}(h:KD w gN yL N)(ha:a<N.length) :
 w.cell? ⟨gN,a*7,none⟩=some (.int .i64 (pP N a).kind)/\w.cell? ⟨gN,a*7+1,none⟩=some (.int .i64 (pP N a).left)/\w.cell? ⟨gN,a*7+2,none⟩=some (.int .i64 (pP N a).right)/\w.cell? ⟨gN,a*7+3,none⟩=some (.string ⟨(pP N a).name.toArray⟩)/\w.cell? ⟨gN,a*7+4,none⟩=some (.string ⟨(pP N a).mark.toArray⟩)/\w.cell? ⟨gN,a*7+5,none⟩=some (.string ⟨(pP N a).other.toArray⟩)/\w.cell? ⟨gN,a*7+6,none⟩=some (.int .i64 (pP N a).num):=by
 have hg:=fun j (hj:j<7)=>zo N a ha j hj;refine⟨xP h.blk h.row (hg 0 (by omega)),xP h.blk h.row (hg 1 (by omega)),xP h.blk h.row (hg 2 (by omega)),xP h.blk h.row (hg 3 (by omega)),xP h.blk h.row (hg 4 (by omega)),xP h.blk h.row (hg 5 (by omega)),xP h.blk h.row (hg 6 (by omega))⟩
theorem KD.lt{gN:Nat}{yL:Array Value}{N:List zR}(h:KD w gN yL N):gN<w.heap.size:=by
 rcases me gN w.heap.size with h1|h1
 ·exact h1
 ·have h2:=h.blk;rw[md h1]at h2;cases h2
def xz:xI:=⟨false,false,0,[]⟩
def Q5(S:List xI)(i:Nat):xI:=S.getD i xz
structure KC(w:World)(gS:Nat)(yL:Array Value)(S:List xI):Prop where
 blk:w.heap[gS]? = some (.cells yL 235 (0,0))
 row:yL.toList.take (S.length*4)=lU S
theorem zm(S:List xI):∀i,i<S.length->∀j,j<4->(lU S)[i*4+j]? = (Yj (Q5 S i))[j]? := by
 induction S with
 | nil=>intro i h;simp at h
 | cons t r ih =>
   intro i h j hj;have e:lU (t::r)=Yj t++lU r:=by simp[lU]
   have hl:(Yj t).length=4:=rfl
   cases i with
   | zero=>rw[e,mu (by rw[hl];omega)];simp[Q5]
   | succ i =>
     rw[e,li (by rw[hl];omega),hl,show (i+1)*4+j-4=i*4+j by omega,ih i (by simpa using h) j hj];simp[Q5]
theorem KC.cells{gS:Nat}{yL:Array Value}{S:List xI}(h:KC w gS yL S)(ha:a<S.length) :
 w.cell? ⟨gS,a*4,none⟩=some (.bool (Q5 S a).minus)/\w.cell? ⟨gS,a*4+1,none⟩=some (.bool (Q5 S a).starred)/\w.cell? ⟨gS,a*4+2,none⟩=some (.int .i64 (Q5 S a).num)/\w.cell? ⟨gS,a*4+3,none⟩=some (.string ⟨(Q5 S a).name.toArray⟩):=by
 have hg:=fun j (hj:j<4)=>zm S a ha j hj;exact⟨xP h.blk h.row (hg 0 (by omega)),xP h.blk h.row (hg 1 (by omega)),xP h.blk h.row (hg 2 (by omega)),xP h.blk h.row (hg 3 (by omega))⟩
theorem KC.lt{gS:Nat}{yL:Array Value}{S:List xI}(h:KC w gS yL S):gS<w.heap.size:=by
 rcases me gS w.heap.size with h1|h1
 ·exact h1
 ·have h2:=h.blk;rw[md h1]at h2;cases h2
theorem zL2(S:List xI)(k:Nat)(h:k<S.length):S.drop k=Q5 S k::S.drop (k+1):=by
 rw[pq h];simp[Q5,List.getD,h]
structure gQ(x:zE):Prop where
 kinds:x.kind=1\/x.kind=2\/x.kind=3\/x.kind=4
 lo0:0<=x.low
 lo1:x.low<=9999
 hi0:0<=x.high
 hi1:x.high<=9999
 sums:∀a,a<x.sum.length->0<=(Q5 x.sum a).num/\(Q5 x.sum a).num<=9999
 sumN:x.sum.length<=10000
 nodes:dI x.nd
 rule:x.kind=3->0<x.sum.length/\0<=x.root/\x.root<(x.nd.length:Int)
structure Qw(w:World)(x:LX):Prop where
 s1:∃a n c,x.2.1=.slice a n c
 s2:∃a n c,x.2.2=.slice a n c
 sum:0<x.1.sum.length->∃g c yL,x.2.1=.slice (some ⟨g,0,none⟩) x.1.sum.length c/\KC w g yL x.1.sum
 nod:0<x.1.nd.length->∃g c yL,x.2.2=.slice (some ⟨g,0,none⟩) x.1.nd.length c/\KD w g yL x.1.nd
theorem Qw.of_rows{B:Nat}{x:LX}(h:jF w B x.2.1 x.2.2 x.1):Qw w x:=by
 refine⟨tJ h.1,tJ h.2,fun h0=>?_,fun h0=>?_⟩
 ·rcases h.1.2 with ⟨_,h2⟩|⟨g,cap,yL,h1,_,h3,_,_,_,h7⟩
  ·omega
  ·exact⟨g,cap,yL,h1,h3,h7⟩
 ·rcases h.2.2 with ⟨_,h2⟩|⟨g,cap,yL,h1,_,h3,_,_,_,h7⟩
  ·omega
  ·exact⟨g,cap,yL,h1,h3,h7⟩
def lz:LX:=(⟨0,[],0,0,[],[],[],0,0,0,[]⟩,(.slice none 0 0,.slice none 0 0))
def pM(ls:List LX)(i:Nat):LX:=ls.getD i lz
structure UK(w:World)(gl:Nat)(yL:Array Value)(ls:List LX):Prop where
 blk:w.heap[gl]? = some (.cells yL 184 (0,0))
 row:yL.toList.take (ls.length*11)=mG ls
theorem UK.lt{gl:Nat}{yL:Array Value}(h:UK w gl yL ls):gl<w.heap.size:=by
 rcases me gl w.heap.size with h1|h1
 ·exact h1
 ·have h2:=h.blk;rw[md h1]at h2;cases h2
theorem zp(ls:List LX):∀i,i<ls.length->∀j,j<11->(mG ls)[i*11+j]? = (aT (pM ls i))[j]? := by
 induction ls with
 | nil=>intro i h;simp at h
 | cons t r ih =>
   intro i h j hj;have e:mG (t::r)=aT t++mG r:=by simp[mG]
   have hl:(aT t).length=11:=rfl
   cases i with
   | zero=>rw[e,mu (by rw[hl];omega)];simp[pM]
   | succ i =>
     rw[e,li (by rw[hl];omega),hl,show (i+1)*11+j-11=i*11+j by omega,ih i (by simpa using h) j hj];simp[pM]
theorem UK.cell{gl:Nat}{yL:Array Value}(h:UK w gl yL ls)(ha:a<ls.length)(j:Nat)(hj:j<11){u:Value}(hu:(aT (pM ls a))[j]? = some u):w.cell? ⟨gl,a*11+j,none⟩=some u :=
 xP h.blk h.row ((zp ls a ha j hj).trans hu)
theorem YC{k:Nat}(h:k<ls.length):pM ls k∈ls:=by simp[pM,List.getD,h]
end Go.Proofs.YtnbpdffdnphbeabGreatDoor
