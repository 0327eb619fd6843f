import Derived.Test.YtnbpdffdnphbeabGreatDoorMono
import Derived.Lib.AppendStr
import Derived.Test.YtnbpdffdnphbeabGreatDoorItoa
import Derived.WalkSmall
namespace Go.Proofs.YtnbpdffdnphbeabGreatDoor
open Go.RowKit
variable{ls:List LX}{a:Nat}{w:World}
def okT(x:Obj):Prop:=∀c t fz,x=.cells c t fz->t≠5/\t≠195
structure KT(W:Nat)(w w':World):Prop where
 below:Below W w w'
 kept:∀(k:Nat) (x:Obj),w.heap[k]? = some x->okT x->w'.heap[k]? = some x
def putB(out:Bs)(il:Bool)(t:Bs):Bs:=(match il with|true=>out++[32]|false=>out)++t
def zJV(w:World):Prop:=Lib.TabIs Tryz.prog w "internal/strconv.uint64pow10" .u64 Lib.pow10Tab
abbrev zFY:=Bs × Bool
theorem zJV.below{w':World}{W:Nat}(h:zJV w)(hg:∃g,Tryz.prog.globalNamed "internal/strconv.uint64pow10" = some g/\g<W)(hb:Below W w w'):zJV w':=by
 obtain⟨g,h1,h2⟩:=hg;exact var?_below hb h1 h2 h
theorem FZ{k:Nat}{os:Array Obj}{i:Nat}{x:Obj}(h:w.heap[i]? = some x):(Sort.grow (w.drewN k) os).heap[i]? = some x:=by
 have hi:i<w.heap.size:=by
  rcases mc i w.heap.size with h1|h1
  ·exact h1
  ·rw[ma h1]at h;cases h
 have hd:(w.drewN k).heap=w.heap:=by simp
 rw[Sort.heap_grow_old _ _ (by rw[hd];exact hi),hd];exact h
theorem KT.growN{W:Nat}(k:Nat)(os:Array Obj)(hW:W<=w.heap.size):KT W w (Sort.grow (w.drewN k) os):=by
 have hd:(w.drewN k).heap=w.heap:=by simp
 refine⟨⟨rfl,by simp[Sort.grow],rfl,by simp[Sort.grow],fun i hi=>?_⟩,fun i x hx _=>FZ hx⟩;rw[Sort.heap_grow_old _ _ (by rw[hd];omega),hd]
def Ys(t:Bs)(st:zFY):zFY:=(putB st.1 st.2 t,true)
def wNum(n:Int)(st:zFY):zFY:=Ys (Lib.itoa n) st
def zJ2(x:zT)(st:zFY):zFY :=
 if x.kind=4 then Ys [97,108,119,97,121,115] st
 else if x.kind=5 then Ys x.name (Ys [104,97,115] st)
 else if x.kind=6 then Ys x.name st
 else if x.other.isEmpty=true then wNum x.num (Ys x.mark (Ys x.name st))
 else Ys x.other (Ys x.mark (Ys x.name st))
def nz:zT:=⟨0,0,0,[],[],[],0⟩
def pO(N:List zT)(a:Nat):zT:=N.getD a nz
def dA(N:List zT):Prop:=∀a,a<N.length ->
 ((pO N a).kind=1->0<=(pO N a).left/\(pO N a).left<a/\0<=(pO N a).right/\(pO N a).right<a) /\
 ((pO N a).kind=2->0<=(pO N a).left/\(pO N a).left<a/\0<=(pO N a).right/\(pO N a).right<a) /\
 ((pO N a).kind=3->0<=(pO N a).left/\(pO N a).left<a) /\
 (¬(pO N a).kind=1->¬(pO N a).kind=2->¬(pO N a).kind=3->(4<=(pO N a).kind/\(pO N a).kind<=7)/\0<=(pO N a).num/\(pO N a).num<=9999)
structure Kk(w:World)(gN:Nat)(yM:Array Value)(N:List zT):Prop where
 blk:w.heap[gN]? = some (.cells yM 238 (0,0))
 row:yM.toList.take (N.length*7)=dO N
theorem Ge(N:List zT):∀i,i<N.length->∀j,j<7->(dO N)[i*7+j]? = (YR (pO N i))[j]? := by
 induction N with
 | nil=>intro i h;simp at h
 | cons t r ih =>
   intro i h j hj;have e:dO (t::r)=YR t++dO r:=by simp[dO]
   have hl:(YR t).length=7:=rfl
   cases i with
   | zero=>rw[e,mt (by rw[hl];omega)];simp[pO]
   | succ i =>
     rw[e,ld (by rw[hl];omega),hl,show (i+1)*7+j-7=i*7+j by omega,ih i (by simpa using h) j hj];simp[pO]
theorem Kk.cells{gN:Nat}{yM:Array Value}{N:List zT}(h:Kk w gN yM N)(ha:a<N.length) :
 w.cell? ⟨gN,a*7,none⟩=some (.int .i64 (pO N a).kind)/\w.cell? ⟨gN,a*7+1,none⟩=some (.int .i64 (pO N a).left)/\w.cell? ⟨gN,a*7+2,none⟩=some (.int .i64 (pO N a).right)/\w.cell? ⟨gN,a*7+3,none⟩=some (.string ⟨(pO N a).name.toArray⟩)/\w.cell? ⟨gN,a*7+4,none⟩=some (.string ⟨(pO N a).mark.toArray⟩)/\w.cell? ⟨gN,a*7+5,none⟩=some (.string ⟨(pO N a).other.toArray⟩)/\w.cell? ⟨gN,a*7+6,none⟩=some (.int .i64 (pO N a).num):=by
 have hg:=fun j (hj:j<7)=>Ge N a ha j hj;refine⟨xM h.blk h.row (hg 0 (by omega)),xM h.blk h.row (hg 1 (by omega)),xM h.blk h.row (hg 2 (by omega)),xM h.blk h.row (hg 3 (by omega)),xM h.blk h.row (hg 4 (by omega)),xM h.blk h.row (hg 5 (by omega)),xM h.blk h.row (hg 6 (by omega))⟩
theorem Kk.lt{gN:Nat}{yM:Array Value}{N:List zT}(h:Kk w gN yM N):gN<w.heap.size:=by
 rcases mc gN w.heap.size with h1|h1
 ·exact h1
 ·have h2:=h.blk;rw[ma h1]at h2;cases h2
def xz:xE:=⟨false,false,0,[]⟩
def XV(S:List xE)(i:Nat):xE:=S.getD i xz
structure Kj(w:World)(gS:Nat)(yM:Array Value)(S:List xE):Prop where
 blk:w.heap[gS]? = some (.cells yM 235 (0,0))
 row:yM.toList.take (S.length*4)=lU S
theorem Gb(S:List xE):∀i,i<S.length->∀j,j<4->(lU S)[i*4+j]? = (ZA (XV S i))[j]? := by
 induction S with
 | nil=>intro i h;simp at h
 | cons t r ih =>
   intro i h j hj;have e:lU (t::r)=ZA t++lU r:=by simp[lU]
   have hl:(ZA t).length=4:=rfl
   cases i with
   | zero=>rw[e,mt (by rw[hl];omega)];simp[XV]
   | succ i =>
     rw[e,ld (by rw[hl];omega),hl,show (i+1)*4+j-4=i*4+j by omega,ih i (by simpa using h) j hj];simp[XV]
theorem Kj.cells{gS:Nat}{yM:Array Value}{S:List xE}(h:Kj w gS yM S)(ha:a<S.length) :
 w.cell? ⟨gS,a*4,none⟩=some (.bool (XV S a).minus)/\w.cell? ⟨gS,a*4+1,none⟩=some (.bool (XV S a).starred)/\w.cell? ⟨gS,a*4+2,none⟩=some (.int .i64 (XV S a).num)/\w.cell? ⟨gS,a*4+3,none⟩=some (.string ⟨(XV S a).name.toArray⟩):=by
 have hg:=fun j (hj:j<4)=>Gb S a ha j hj;exact⟨xM h.blk h.row (hg 0 (by omega)),xM h.blk h.row (hg 1 (by omega)),xM h.blk h.row (hg 2 (by omega)),xM h.blk h.row (hg 3 (by omega))⟩
theorem Kj.lt{gS:Nat}{yM:Array Value}{S:List xE}(h:Kj w gS yM S):gS<w.heap.size:=by
 rcases mc gS w.heap.size with h1|h1
 ·exact h1
 ·have h2:=h.blk;rw[ma h1]at h2;cases h2
theorem zJO(S:List xE)(k:Nat)(h:k<S.length):S.drop k=XV S k::S.drop (k+1):=by
 rw[pm h];simp[XV,List.getD,h]
structure fX(x:zE):Prop where
 kinds:x.kind=1\/x.kind=2\/x.kind=3\/x.kind=4
 lo0:0<=x.low
 lo1:x.low<=9999
 hi0:0<=x.high
 hi1:x.high<=9999
 sums:∀a,a<x.sum.length->0<=(XV x.sum a).num/\(XV x.sum a).num<=9999
 sumN:x.sum.length<=10000
 nodes:dA x.nd
 rule:x.kind=3->0<x.sum.length/\0<=x.root/\x.root<(x.nd.length:Int)
structure XR(w:World)(x:LX):Prop where
 s1:∃a n c,x.2.1=.slice a n c
 s2:∃a n c,x.2.2=.slice a n c
 sum:0<x.1.sum.length->∃g c yM,x.2.1=.slice (some ⟨g,0,none⟩) x.1.sum.length c/\Kj w g yM x.1.sum
 nod:0<x.1.nd.length->∃g c yM,x.2.2=.slice (some ⟨g,0,none⟩) x.1.nd.length c/\Kk w g yM x.1.nd
theorem XR.of_rows{B:Nat}{x:LX}(h:jA w B x.2.1 x.2.2 x.1):XR w x:=by
 refine⟨tC h.1,tC h.2,fun h0=>?_,fun h0=>?_⟩
 ·rcases h.1.2 with ⟨_,h2⟩|⟨g,cap,yM,h1,_,h3,_,_,_,h7⟩
  ·omega
  ·exact⟨g,cap,yM,h1,h3,h7⟩
 ·rcases h.2.2 with ⟨_,h2⟩|⟨g,cap,yM,h1,_,h3,_,_,_,h7⟩
  ·omega
  ·exact⟨g,cap,yM,h1,h3,h7⟩
def lz:LX:=(⟨0,[],0,0,[],[],[],0,0,0,[]⟩,(.slice none 0 0,.slice none 0 0))
def pG(ls:List LX)(i:Nat):LX:=ls.getD i lz
structure Uo(w:World)(gl:Nat)(yM:Array Value)(ls:List LX):Prop where
 blk:w.heap[gl]? = some (.cells yM 184 (0,0))
 row:yM.toList.take (ls.length*11)=mD ls
theorem Uo.lt{gl:Nat}{yM:Array Value}(h:Uo w gl yM ls):gl<w.heap.size:=by
 rcases mc gl w.heap.size with h1|h1
 ·exact h1
 ·have h2:=h.blk;rw[ma h1]at h2;cases h2
theorem Gf(ls:List LX):∀i,i<ls.length->∀j,j<11->(mD ls)[i*11+j]? = (sS (pG ls i))[j]? := by
 induction ls with
 | nil=>intro i h;simp at h
 | cons t r ih =>
   intro i h j hj;have e:mD (t::r)=sS t++mD r:=by simp[mD]
   have hl:(sS t).length=11:=rfl
   cases i with
   | zero=>rw[e,mt (by rw[hl];omega)];simp[pG]
   | succ i =>
     rw[e,ld (by rw[hl];omega),hl,show (i+1)*11+j-11=i*11+j by omega,ih i (by simpa using h) j hj];simp[pG]
theorem Uo.cell{gl:Nat}{yM:Array Value}(h:Uo w gl yM ls)(ha:a<ls.length)(j:Nat)(hj:j<11){u:Value}(hu:(sS (pG ls a))[j]? = some u):w.cell? ⟨gl,a*11+j,none⟩=some u :=
 xM h.blk h.row ((Gf ls a ha j hj).trans hu)
theorem Yi{k:Nat}(h:k<ls.length):pG ls k∈ls:=by simp[pG,List.getD,h]
end Go.Proofs.YtnbpdffdnphbeabGreatDoor
