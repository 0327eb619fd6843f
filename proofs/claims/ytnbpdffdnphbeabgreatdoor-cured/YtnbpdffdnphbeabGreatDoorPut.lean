import Derived.Test.YtnbpdffdnphbeabGreatDoorMono
import Derived.Lib.AppendStr
import Derived.Test.YtnbpdffdnphbeabGreatDoorItoa
import Derived.WalkSmall
namespace Go.Proofs.YtnbpdffdnphbeabGreatDoor
open Go.RowKit
variable{il:Bool}{out:Bs}{ls:List LX}{S:List yQ}{N:List zN}{W gS gN:Nat}{w' w a:World}
def bC(l:Bs):List Value:=l.map fun b=>Value.int .u8 b.toNat
def zIU(ov:Value)(il:Bool):Obj:=.cells #[ov,.bool il] 195 (0,0)
def Wr(w:World)(W:Nat)(out:Bs)(il:Bool):Prop :=
 ∃ov,w.heap[W]? = some (zIU ov il)/\w.ownsRow (W+1) 5 1 ov out.length (bC out)
def okT(x:Obj):Prop:=∀c t fz,x=.cells c t fz->t≠5/\t≠195
structure KT(W:Nat)(w w':World):Prop where
 below:Below W w w'
 kept:∀(k:Nat) (x:Obj),w.heap[k]? = some x->okT x->w'.heap[k]? = some x
theorem KT.refl(W:Nat)(w:World):KT W w w:=⟨tl _ _,fun _ _ h _=>h⟩
theorem KT.trans{b c:World}(h:KT W a b)(k:KT W b c):KT W a c:=⟨h.below.trans k.below,fun i x hx ho=>k.kept i x (h.kept i x hx ho) ho⟩
theorem KT.new(h:KT W a w)(hW:W<=w.heap.size)(o:Obj):KT W a (w.alloc o) :=
 h.trans ⟨(tl _ _).alloc hW _,fun _ _ hx _=>yD hx⟩
theorem KT.grown{size:Nat}{v:Value}{n:Nat}{xs:List Value}(h:KT W a w)(zJU:w.ownsRow (W+1) 5 size v n xs)(hg:w.grownBy w' v.ownBlock)(hW:W<w.heap.size):KT W a w':=by
 refine h.trans ⟨(tl _ _).grown hg (pb hW) (fun k hk=>by have:=(zU zJU k hk).1;omega),fun k x hx ho=>?_⟩
 have zJS:k<w.heap.size:=by
  rcases py k w.heap.size with h1|h1
  ·exact h1
  ·rw[pq h1]at hx;cases hx
 rw[hg.block k zJS ?_];· exact hx
 intro hE;rcases zJU.2 with ⟨k1,_⟩|⟨g',cap',cur',k1,_,k3,_⟩
 ·rw[k1]at hE;simp[Value.ownBlock]at hE
 ·rw[k1]at hE
  simp[Value.ownBlock]at hE;subst hE;rw[hx]at k3;cases k3;exact(ho _ _ _ rfl).1 rfl
theorem Wr.lt(h:Wr w W out il):W<w.heap.size:=by
 obtain⟨nv,h1,_⟩:=h;rcases py W w.heap.size with h2|h2
 ·exact h2
 ·rw[pq h2]at h1;cases h1
def zJ2(out:Bs)(il:Bool)(t:Bs):Bs:=(match il with|true=>out++[32]|false=>out)++t
def zI9(w:World):Prop:=Lib.TabIs Tryz.prog w "internal/strconv.uint64pow10" .u64 Lib.pow10Tab
abbrev cR:=Bs × Bool
structure zIP(w:World)(W:Nat)(st:cR):Prop where
 wr:Wr w W st.1 st.2
 tab:zI9 w
 gl:∃g,Tryz.prog.globalNamed "internal/strconv.uint64pow10" = some g/\g<W
theorem zI9.below(h:zI9 w)(hg:∃g,Tryz.prog.globalNamed "internal/strconv.uint64pow10" = some g/\g<W)(hb:Below W w w'):zI9 w':=by
 obtain⟨g,h1,h2⟩:=hg;exact var?_below hb h1 h2 h
theorem zIP.step{st st':cR}(h:zIP w W st)(hw:Wr w' W st'.1 st'.2)(hk:KT W w w'):zIP w' W st':=⟨hw,h.tab.below h.gl hk.below,h.gl⟩
theorem Wr.new(h:Wr w W out il)(o:Obj):Wr (w.alloc o) W out il:=by
 obtain⟨ov,h1,h2⟩:=h;exact⟨ov,yD h1,h2.alloc _⟩
theorem zIP.new{st:cR}(h:zIP w W st)(o:Obj):zIP (w.alloc o) W st :=
 h.step (h.wr.new o) ((KT.refl W w).new (pb h.wr.lt) o)
theorem wU{k:Nat}{os:Array Obj}{i:Nat}{x:Obj}(h:w.heap[i]? = some x):(Sort.grow (w.drewN k) os).heap[i]? = some x:=by
 have hi:i<w.heap.size:=by
  rcases py i w.heap.size with h1|h1
  ·exact h1
  ·rw[pq h1]at h;cases h
 have hd:(w.drewN k).heap=w.heap:=by simp
 rw[Sort.heap_grow_old _ _ (by rw[hd];exact hi),hd];exact h
theorem KT.growN(k:Nat)(os:Array Obj)(hW:W<=w.heap.size):KT W w (Sort.grow (w.drewN k) os):=by
 have hd:(w.drewN k).heap=w.heap:=by simp
 refine⟨⟨rfl,by simp[Sort.grow],rfl,by simp[Sort.grow],fun i hi=>?_⟩,fun i x hx _=>wU hx⟩;rw[Sort.heap_grow_old _ _ (by rw[hd];omega),hd]
theorem Wr.grow(h:Wr w W out il)(k:Nat)(os:Array Obj):Wr (Sort.grow (w.drewN k) os) W out il:=by
 obtain⟨ov,h1,h2⟩:=h;refine⟨ov,wU h1,h2.1,?_⟩;rcases h2.2 with h3|⟨g,cap,c,h4,h5,h6,r⟩
 ·exact .inl h3
 ·exact .inr ⟨g,cap,c,h4,h5,wU h6,r⟩
def yN(t:Bs)(st:cR):cR:=(zJ2 st.1 st.2 t,true)
def sL(n:Int)(st:cR):cR:=yN (Lib.itoa n) st
def zI5:Nat:=5000000
def Kr(x:zN)(st:cR):cR :=
 if x.kind=4 then yN [97,108,119,97,121,115] st
 else if x.kind=5 then yN x.name (yN [104,97,115] st)
 else if x.kind=6 then yN x.name st
 else if x.other.isEmpty=true then sL x.num (yN x.mark (yN x.name st))
 else yN x.other (yN x.mark (yN x.name st))
def nz:zN:=⟨0,0,0,[],[],[],0⟩
def qP(N:List zN)(a:Nat):zN:=N.getD a nz
def C6(N:List zN)(f:Nat->cR->cR)(a:Nat)(st:cR):cR:=if (qP N a).kind=1 then yN vJ (f a (yN yO st)) else f a st
def zH4(N:List zN)(f:Nat->cR->cR)(a:Nat)(st:cR):cR:=if (qP N a).kind=1\/(qP N a).kind=2 then yN vJ (f a (yN yO st)) else f a st
def dQ(N:List zN):Nat->Nat->cR->cR
 | 0,_,st=>st
 | n+1,a,st =>
   if (qP N a).kind=1 then dQ N n (qP N a).right.toNat (yN jU (dQ N n (qP N a).left.toNat st))
   else if (qP N a).kind=2 then C6 N (dQ N n) (qP N a).right.toNat (yN xT (C6 N (dQ N n) (qP N a).left.toNat st))
   else if (qP N a).kind=3 then zH4 N (dQ N n) (qP N a).left.toNat (yN yX st)
   else Kr (qP N a) st
def lS(N:List zN):Prop:=∀a,a<N.length ->
 ((qP N a).kind=1->0<=(qP N a).left/\(qP N a).left<a/\0<=(qP N a).right/\(qP N a).right<a) /\
 ((qP N a).kind=2->0<=(qP N a).left/\(qP N a).left<a/\0<=(qP N a).right/\(qP N a).right<a) /\
 ((qP N a).kind=3->0<=(qP N a).left/\(qP N a).left<a) /\
 (¬(qP N a).kind=1->¬(qP N a).kind=2->¬(qP N a).kind=3->(4<=(qP N a).kind/\(qP N a).kind<=7)/\0<=(qP N a).num/\(qP N a).num<=9999)
structure ZR(w:World)(gN:Nat)(yT:Array Value)(N:List zN):Prop where
 blk:w.heap[gN]? = some (.cells yT 238 (0,0))
 row:yT.toList.take (N.length*7)=dB N
theorem ZR.new{yT:Array Value}(h:ZR w gN yT N)(o:Obj):ZR (w.alloc o) gN yT N:=⟨yD h.blk,h.row⟩
theorem FY(N:List zN):∀i,i<N.length->∀j,j<7->(dB N)[i*7+j]? = (YM (qP N i))[j]? := by
 induction N with
 | nil=>intro i h;simp at h
 | cons t r ih =>
   intro i h j hj;have e:dB (t::r)=YM t++dB r:=by simp[dB]
   have hl:(YM t).length=7:=rfl
   cases i with
   | zero=>rw[e,po (by rw[hl];omega)];simp[qP]
   | succ i =>
     rw[e,mq (by rw[hl];omega),hl,show (i+1)*7+j-7=i*7+j by omega,ih i (by simpa using h) j hj];simp[qP]
theorem ZR.cells{yT:Array Value}(h:ZR w gN yT N){a:Nat}(ha:a<N.length) :
 w.cell? ⟨gN,a*7,none⟩=some (.int .i64 (qP N a).kind)/\w.cell? ⟨gN,a*7+1,none⟩=some (.int .i64 (qP N a).left)/\w.cell? ⟨gN,a*7+2,none⟩=some (.int .i64 (qP N a).right)/\w.cell? ⟨gN,a*7+3,none⟩=some (.string ⟨(qP N a).name.toArray⟩)/\w.cell? ⟨gN,a*7+4,none⟩=some (.string ⟨(qP N a).mark.toArray⟩)/\w.cell? ⟨gN,a*7+5,none⟩=some (.string ⟨(qP N a).other.toArray⟩)/\w.cell? ⟨gN,a*7+6,none⟩=some (.int .i64 (qP N a).num):=by
 have hg:=fun j (hj:j<7)=>FY N a ha j hj;refine⟨xE h.blk h.row (hg 0 (by omega)),xE h.blk h.row (hg 1 (by omega)),xE h.blk h.row (hg 2 (by omega)),xE h.blk h.row (hg 3 (by omega)),xE h.blk h.row (hg 4 (by omega)),xE h.blk h.row (hg 5 (by omega)),xE h.blk h.row (hg 6 (by omega))⟩
theorem ZR.lt{yT:Array Value}(h:ZR w gN yT N):gN<w.heap.size:=by
 rcases py gN w.heap.size with h1|h1
 ·exact h1
 ·have h2:=h.blk;rw[pq h1]at h2;cases h2
def Cu(x:yQ)(st:cR):cR :=
 match x.starred with
 | true=>yN x.name (yN [42] (sL x.num st))
 | false=>match x.name.isEmpty with
   | true=>sL x.num st
   | false=>yN x.name st
def Ct(m:Bool)(i:Nat)(st:cR):cR:=match m with|true=>yN [45] st|false=>if 0<i then yN [43] st else st
def Zo:List yQ->Nat->cR->cR
 | [],_,st=>st
 | x::r,i,st=>Zo r (i+1) (Cu x (Ct x.minus i st))
def xz:yQ:=⟨false,false,0,[]⟩
def ZI(S:List yQ)(i:Nat):yQ:=S.getD i xz
structure ZP(w:World)(gS:Nat)(yT:Array Value)(S:List yQ):Prop where
 blk:w.heap[gS]? = some (.cells yT 235 (0,0))
 row:yT.toList.take (S.length*4)=lO S
theorem FW(S:List yQ):∀i,i<S.length->∀j,j<4->(lO S)[i*4+j]? = (Zv (ZI S i))[j]? := by
 induction S with
 | nil=>intro i h;simp at h
 | cons t r ih =>
   intro i h j hj;have e:lO (t::r)=Zv t++lO r:=by simp[lO]
   have hl:(Zv t).length=4:=rfl
   cases i with
   | zero=>rw[e,po (by rw[hl];omega)];simp[ZI]
   | succ i =>
     rw[e,mq (by rw[hl];omega),hl,show (i+1)*4+j-4=i*4+j by omega,ih i (by simpa using h) j hj];simp[ZI]
theorem ZP.cells{yT:Array Value}(h:ZP w gS yT S){a:Nat}(ha:a<S.length) :
 w.cell? ⟨gS,a*4,none⟩=some (.bool (ZI S a).minus)/\w.cell? ⟨gS,a*4+1,none⟩=some (.bool (ZI S a).starred)/\w.cell? ⟨gS,a*4+2,none⟩=some (.int .i64 (ZI S a).num)/\w.cell? ⟨gS,a*4+3,none⟩=some (.string ⟨(ZI S a).name.toArray⟩):=by
 have hg:=fun j (hj:j<4)=>FW S a ha j hj;exact⟨xE h.blk h.row (hg 0 (by omega)),xE h.blk h.row (hg 1 (by omega)),xE h.blk h.row (hg 2 (by omega)),xE h.blk h.row (hg 3 (by omega))⟩
theorem ZP.lt{yT:Array Value}(h:ZP w gS yT S):gS<w.heap.size:=by
 rcases py gS w.heap.size with h1|h1
 ·exact h1
 ·have h2:=h.blk;rw[pq h1]at h2;cases h2
theorem zJD(S:List yQ)(k:Nat)(h:k<S.length):S.drop k=ZI S k::S.drop (k+1):=by
 rw[pi h];simp[ZI,List.getD,h]
def sM(st:cR):cR:=(st.1++[59,10],false)
theorem ZP.new{yT:Array Value}(h:ZP w gS yT S)(o:Obj):ZP (w.alloc o) gS yT S:=⟨yD h.blk,h.row⟩
def Qc(x:zE)(st:cR):cR :=
 if x.kind=1 then sM (sL x.high (yN [46,46] (sL x.low (yN x.name (yN [110,117,109] st)))))
 else if x.kind=2 then sM (yN x.name (yN [102,108,97,103] st))
 else if x.kind=3 then sM (dQ x.nd x.nd.length x.root.toNat (yN xC (Zo x.sum 0 (yN [61] (yN x.conc (yN [58] (yN x.name (yN jZ st))))))))
 else sM (yN x.lower (yN x.name (yN [111,118,101,114] st)))
structure oT(x:zE):Prop where
 kinds:x.kind=1\/x.kind=2\/x.kind=3\/x.kind=4
 lo0:0<=x.low
 lo1:x.low<=9999
 hi0:0<=x.high
 hi1:x.high<=9999
 sums:∀a,a<x.sum.length->0<=(ZI x.sum a).num/\(ZI x.sum a).num<=9999
 sumN:x.sum.length<=10000
 nodes:lS x.nd
 rule:x.kind=3->0<x.sum.length/\0<=x.root/\x.root<(x.nd.length:Int)
structure XF(w:World)(x:LX):Prop where
 s1:∃a n c,x.2.1=.slice a n c
 s2:∃a n c,x.2.2=.slice a n c
 sum:0<x.1.sum.length->∃g c yT,x.2.1=.slice (some ⟨g,0,none⟩) x.1.sum.length c/\ZP w g yT x.1.sum
 nod:0<x.1.nd.length->∃g c yT,x.2.2=.slice (some ⟨g,0,none⟩) x.1.nd.length c/\ZR w g yT x.1.nd
theorem XF.of_rows{B:Nat}{x:LX}(h:jJ w B x.2.1 x.2.2 x.1):XF w x:=by
 refine⟨tJ h.1,tJ h.2,fun h0=>?_,fun h0=>?_⟩
 ·rcases h.1.2 with ⟨_,h2⟩|⟨g,cap,yT,h1,_,h3,_,_,_,h7⟩
  ·omega
  ·exact⟨g,cap,yT,h1,h3,h7⟩
 ·rcases h.2.2 with ⟨_,h2⟩|⟨g,cap,yT,h1,_,h3,_,_,_,h7⟩
  ·omega
  ·exact⟨g,cap,yT,h1,h3,h7⟩
def lz:LX:=(⟨0,[],0,0,[],[],[],0,0,0,[]⟩,(.slice none 0 0,.slice none 0 0))
def pT(ls:List LX)(i:Nat):LX:=ls.getD i lz
structure Ub(w:World)(gl:Nat)(yT:Array Value)(ls:List LX):Prop where
 blk:w.heap[gl]? = some (.cells yT 184 (0,0))
 row:yT.toList.take (ls.length*11)=mL ls
theorem Ub.lt{gl:Nat}{yT:Array Value}(h:Ub w gl yT ls):gl<w.heap.size:=by
 rcases py gl w.heap.size with h1|h1
 ·exact h1
 ·have h2:=h.blk;rw[pq h1]at h2;cases h2
theorem FZ(ls:List LX):∀i,i<ls.length->∀j,j<11->(mL ls)[i*11+j]? = (sF (pT ls i))[j]? := by
 induction ls with
 | nil=>intro i h;simp at h
 | cons t r ih =>
   intro i h j hj;have e:mL (t::r)=sF t++mL r:=by simp[mL]
   have hl:(sF t).length=11:=rfl
   cases i with
   | zero=>rw[e,po (by rw[hl];omega)];simp[pT]
   | succ i =>
     rw[e,mq (by rw[hl];omega),hl,show (i+1)*11+j-11=i*11+j by omega,ih i (by simpa using h) j hj];simp[pT]
theorem Ub.cell{gl:Nat}{yT:Array Value}(h:Ub w gl yT ls){a:Nat}(ha:a<ls.length)(j:Nat)(hj:j<11){u:Value}(hu:(sF (pT ls a))[j]? = some u):w.cell? ⟨gl,a*11+j,none⟩=some u :=
 xE h.blk h.row ((FZ ls a ha j hj).trans hu)
theorem Ye{k:Nat}(h:k<ls.length):pT ls k∈ls:=by simp[pT,List.getD,h]
def Je:List zE->cR->cR
 | [],st=>st
 | x::r,st=>Je r (Qc x st)
structure zJH(n:Nat)(l:Bs):Prop where
 fails:(vY l).2.2=true->0<=V1 l
 reads:(vY l).2.2=false->V1 l<0
 good:(vY l).2.2=false->∀x∈(vY l).1,oT x
 many:(vY l).1.length<=10000
 text:(vY l).2.2=false->(Je (vY l).1 ([],false)).1=Cy n l
 short:(Cy n l).length<=zI5
 goodR:V1 l<0->∀p∈wN (xB l 0),Vv n (Y9 (xB l 0) p)
end Go.Proofs.YtnbpdffdnphbeabGreatDoor
