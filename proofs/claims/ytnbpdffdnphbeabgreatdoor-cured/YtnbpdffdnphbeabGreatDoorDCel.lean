import Derived.Test.YtnbpdffdnphbeabGreatDoorRgLinks
import Derived.Laws.IdiomStrings
set_option maxHeartbeats 2000000
set_option maxRecDepth 100000
namespace Go.Proofs.YtnbpdffdnphbeabGreatDoor
open Go.RowKit
variable{xs:List Value}{b B n k:Nat}{a:Option Addr}{t:TypeId}{v iv cv rv:Value}{w' w:World}(ls:List zE)(G:List Bool)
def jQ(w:World)(a:Option Addr)(xs:List Value):Prop:=xs=[]\/∃g,a=some ⟨g,0,none⟩/\∀j,j<xs.length->w.cell? ⟨g,j,none⟩=xs[j]?
theorem jQ.below(h:jQ w a xs)(hb:Below w.heap.size w w'):jQ w' a xs:=by
 rcases h with h|⟨g,h1,h2⟩
 ·exact .inl h
 ·refine .inr ⟨g,h1,fun j hj=>?_⟩
  have h3:=h2 j hj;rw[pw hj]at h3;rw[hb.cell (p:=⟨g,j,none⟩) (zY h3),h3,pw hj]
theorem jQ.at(h:jQ w a xs){j:Nat}(hj:xs[j]? = some v):∃g,a=some ⟨g,0,none⟩/\w.cell? ⟨g,j,none⟩=some v:=by
 rcases h with h|⟨g,h1,h2⟩
 ·rw[h]at hj;simp at hj
 ·exact⟨g,h1,(h2 j (List.getElem?_eq_some_iff.1 hj).1).trans hj⟩
theorem fV(h:w.ownsRow B t k v n xs):∃a c,v=.slice a n c/\jQ w a xs/\n<=c/\c<=maxLen:=by
 have hl:=h.1;rcases h.2 with ⟨h1,h2⟩|⟨g,cap,yT,h1,_,h3,h4,h5,_,h7⟩
 ·refine⟨none,0,by rw[h1,h2],.inl (bh (by rw[hl,h2,Nat.zero_mul])),by omega,p7 _⟩
 ·exact⟨some ⟨g,0,none⟩,cap,h1,.inr ⟨g,rfl,fun j hj=>by
   have:=pw hj;rw[this];exact xE h3 (n:=n*k) h7 this⟩,h4,h5⟩
theorem zR{α:Type}(f:α->List Value)(k:Nat)(hf:∀x,(f x).length=k)(d:α)(L:List α):∀i r,i<L.length->r<k->(L.flatMap f)[i*k+r]? = (f (L.getD i d))[r]? := by
 induction L with
 | nil=>intro i r h;simp at h
 | cons x L ih =>
   intro i r hi hr;rw[co]
   cases i with
   | zero=>rw[Nat.zero_mul,db,po (by rw[hf];exact hr)];rfl
   | succ i =>
     rw[mq (by rw[hf];rw[Nat.succ_mul];omega),hf,show (i+1)*k+r-k=i*k+r by rw[Nat.succ_mul];omega,ih i r (by simpa using hi) hr];rfl
def xM(w:World)(t:TypeId)(a:Option Addr)(xs:List Value):Prop:=xs=[]\/∃g cs fz,a=some ⟨g,0,none⟩/\w.heap[g]? = some (.cells cs t fz)/\∀j,j<xs.length->cs[j]? = xs[j]?
theorem xM.cel(h:xM w t a xs):jQ w a xs:=by
 rcases h with h|⟨g,cs,fz,h1,h2,h3⟩
 ·exact .inl h
 ·exact .inr ⟨g,h1,fun j hj=>(zC h2 j).trans (h3 j hj)⟩
theorem uM(h:w.ownsRow B t k v n xs):∃a c,v=.slice a n c/\xM w t a xs:=by
 have hl:=h.1;rcases h.2 with ⟨h1,h2⟩|⟨g,cap,yT,h1,_,h3,h4,h5,_,h7⟩
 ·exact⟨none,0,by rw[h1,h2],.inl (bh (by rw[hl,h2,Nat.zero_mul]))⟩
 ·exact⟨some ⟨g,0,none⟩,cap,h1,.inr ⟨g,yT,_,rfl,h3,fun j hj=>by
   rw[<-h7,List.getElem?_take,tr (by rw[<-hl];exact hj),Array.getElem?_toList]⟩⟩
theorem xM.keep(h:xM w t a xs)(hk:∀(g:Nat) (cs:Array Value) (fz:Nat × Nat),w.heap[g]? = some (Obj.cells cs t fz)->w'.heap[g]? = w.heap[g]?):xM w' t a xs:=by
 rcases h with h|⟨g,cs,fz,h1,h2,h3⟩
 ·exact .inl h
 ·exact .inr ⟨g,cs,fz,h1,by rw[hk g cs fz h2];exact h2,h3⟩
theorem xM.below(h:xM w t a xs)(hb:Below w.heap.size w w'):xM w' t a xs :=
 h.keep fun g _ _ hg=>hb.block g (zQ hg)
theorem xM.grown{e:TypeId}{ys:List Value}(h:xM w t a xs)(zJU:w.ownsRow B e k v n ys)(zJZ:t≠e)(hg:w.grownBy w' v.ownBlock):xM w' t a xs :=
 h.keep fun g cs fz hgg=>hg.block g (zQ hgg) (fun e1=>by
  rcases zJU.2 with ⟨k1,_⟩|⟨g',cap,yT,k1,_,k3,_⟩
  ·rw[k1]at e1;simp[Value.ownBlock]at e1
  ·rw[k1]at e1;simp[Value.ownBlock]at e1
   subst e1;rw[hgg]at k3;simp only[cp,Obj.cells.injEq]at k3;exact zJZ k3.2.1)
theorem xM.set(h:xM w t a xs){j:Nat}{u:Value}{cs:Array Value}{t':TypeId}{fz:Nat × Nat}(hb:w.heap[b]? = some (.cells cs t' fz))(zJZ:t≠t'):xM (w.setCell ⟨b,j,none⟩ u) t a xs :=
 h.keep fun g cs' fz' hg=>l9 _ _ _ _ (fun e=>by
  subst e;rw[hb]at hg;simp only[cp,Obj.cells.injEq]at hg;exact zJZ hg.2.1.symm)
theorem vT(w:World)(o:Obj)(H:Nat)(hH:w.heap.size=H):(w.alloc o).heap[H]? = some o:=by subst hH;exact zH _ _
structure kH where
 kind:Int
 left:Int
 right:Int
 place:Int
 two:Bool
 other:Int
 num:Int
 less:Bool
 equal:Bool
 more:Bool
def qQ(x:kH):List Value:=[.int .i64 x.kind,.int .i64 x.left,.int .i64 x.right,.int .i64 x.place,.bool x.two,.int .i64 x.other,.int .i64 x.num,.bool x.less,.bool x.equal,.bool x.more]
def fY(x:kH):Value:=.agg #[.int .i64 x.kind,.int .i64 x.left,.int .i64 x.right,.int .i64 x.place,.bool x.two,.int .i64 x.other,.int .i64 x.num,.bool x.less,.bool x.equal,.bool x.more]
structure QY where
 kind:Int
 num:Int
 place:Int
def bA(x:QY):List Value:=[.int .i64 x.kind,.int .i64 x.num,.int .i64 x.place]
def zDQ:QY:=⟨0,0,0⟩
def nX:kH:=⟨0,0,0,0,false,0,0,false,false,false⟩
structure xU where
 label:Bs
 conc:Int
 sum:List QY
 guard:List kH
 root:Int
abbrev MX:=xU × Value × Value
def qB(x:MX):Value:=.agg #[.string ⟨x.1.label.toArray⟩,.int .i64 x.1.conc,x.2.1,x.2.2,.int .i64 x.1.root]
def lY(x:MX):List Value:=[.string ⟨x.1.label.toArray⟩,.int .i64 x.1.conc,x.2.1,x.2.2,.int .i64 x.1.root]
structure qK(w:World)(x:MX):Prop where
 sum:∃a c,x.2.1=.slice a x.1.sum.length c/\xM w 260 a (x.1.sum.flatMap bA)
 guard:∃a c,x.2.2=.slice a x.1.guard.length c/\xM w 263 a (x.1.guard.flatMap qQ)
 few1:x.1.sum.length<=10000
 few2:x.1.guard.length<=10000
theorem qK.below{x:MX}(h:qK w x)(hb:Below w.heap.size w w'):qK w' x:=by
 obtain⟨a,c,h1,h2⟩:=h.sum;obtain⟨a',c',h3,h4⟩:=h.guard;exact⟨⟨a,c,h1,h2.below hb⟩,⟨a',c',h3,h4.below hb⟩,h.few1,h.few2⟩
structure zX where
 name:Bs
 isFlag:Bool
 low:Int
 high:Int
def CI(x:zX):Value:=.agg #[.string ⟨x.name.toArray⟩,.bool x.isFlag,.int .i64 x.low,.int .i64 x.high]
def qI(x:zX):List Value:=[.string ⟨x.name.toArray⟩,.bool x.isFlag,.int .i64 x.low,.int .i64 x.high]
def um:zX:=⟨[],false,0,0⟩
def mS(x:zE):zX:=if x.kind=1 then ⟨x.name,false,x.low,x.high⟩ else ⟨x.name,true,0,0⟩
def dZ:List zE->List zX->List zX
 | [],acc=>acc
 | x::r,acc=>dZ r (if x.kind=1\/x.kind=2 then acc++[mS x] else acc)
def yI(ls:List zE):List zX:=dZ ls []
def qW(ls:List zE):List Bs:=(yI ls).map zX.name
theorem B8(i:Nat)(acc:List zX)(h:i<ls.length):dZ (ls.drop i) acc=dZ (ls.drop (i+1)) (if (lA ls i).kind=1\/(lA ls i).kind=2 then acc++[mS (lA ls i)] else acc):=by
 rw[pi h,dZ];simp[lA,List.getD,h]
def zFI(ins:List Bs)(x:yQ):Int:=if x.name=[] then 1 else if zJ ins x.name<0 then 3 else 2
def zIN(ins cs:List Bs)(x:yQ):Int:=if x.name=[] then 0 else if zJ ins x.name<0 then zJ cs x.name else zJ ins x.name
def zJ4(x:yQ):Int:=if x.name=[] then x.num else if x.starred then x.num else 1
def uR(ins cs:List Bs)(x:yQ):QY:=⟨zFI ins x,if x.minus then -zJ4 x else zJ4 x,zIN ins cs x⟩
def CG(ins cs:List Bs)(x:zN):Int:=if x.kind=5 then zJ cs x.name else if x.kind=6\/x.kind=7 then zJ ins x.name else 0
def zFJ(ins:List Bs)(x:zN):Int:=if x.other=[] then 0 else zJ ins x.other
def CM(m:Bs):Bool:=decide (m=[60]\/m=[60,61]\/m=[33,61])
def J8(m:Bs):Bool:=decide (m=[60,61]\/m=[61]\/m=[62,61])
def CL(m:Bs):Bool:=decide (m=[62]\/m=[62,61]\/m=[33,61])
def mH(ins cs:List Bs)(x:zN):kH:=⟨x.kind,x.left,x.right,CG ins cs x,decide (x.other≠[]),zFJ ins x,x.num,CM x.mark,J8 x.mark,CL x.mark⟩
def qM(ins cs:List Bs)(x:zE):xU:=⟨x.name,zJ cs x.conc,x.sum.map (uR ins cs),x.nd.map (mH ins cs),x.root⟩
def dK(ins cs:List Bs):List zE->List xU->List xU
 | [],acc=>acc
 | x::r,acc=>dK ins cs r (if x.kind=3 then acc++[qM ins cs x] else acc)
def uT(ins cs:List Bs)(ls:List zE):List xU:=dK ins cs ls []
theorem K8(ins cs:List Bs)(ls:List zE)(i:Nat)(acc:List xU)(h:i<ls.length):dK ins cs (ls.drop i) acc=dK ins cs (ls.drop (i+1)) (if (lA ls i).kind=3 then acc++[qM ins cs (lA ls i)] else acc):=by
 rw[pi h,dK];simp[lA,List.getD,h]
theorem DT(ins cs:List Bs)(ls:List zE):∀acc,dK ins cs ls acc=acc++(ls.filter fun x=>decide (x.kind=3)).map (qM ins cs):=by
 induction ls with
 | nil=>intro acc;simp[dK]
 | cons x r ih=>intro acc;rw[dK,ih];by_cases h:x.kind=3 <;> simp[h]
theorem Xe:∀acc,dZ ls acc=acc++(ls.filter fun x=>decide (x.kind=1\/x.kind=2)).map mS:=by
 induction ls with
 | nil=>intro acc;simp[dZ]
 | cons x r ih=>intro acc;rw[dZ,ih];by_cases h:x.kind=1\/x.kind=2 <;> simp[h]
theorem aF(x:zE):(mS x).name=x.name:=by unfold mS;split <;> rfl
theorem oG:qW ls=(ls.filter fun x=>decide (x.kind=1\/x.kind=2)).map zE.name:=by
 unfold qW yI;rw[Xe,bj,List.map_map];congr 1;funext x;exact aF x
theorem zBE(w:World)(a:Option Addr)(c:Nat)(ls:List LX)(h:tG w a ls) :
 Calls Tryz.prog 90 #[.slice a ls.length c] w fun e w'=>e=.returned (.agg (gC (zS (kE (uY (fs ls)) (fs ls) gZ))))/\Below w.heap.size w w':=by
 have HO:=zA (fun o=>Dy (w.alloc o) a c ls (h.below (fe (tg _) o) (tg _)));have HGL:Hid ((kE (uY (fs ls)) (fs ls) gZ).length=64):=by unfold Hid;rw[dX];exact xO
 clear h;generalize kE (uY (fs ls)) (fs ls) gZ=Go at *;have HCL:Hid ((zS Go).length=64):=by unfold Hid zS;rw[fO];exact HGL.out
 have HCh:=zA (fun w' g (hg:aU w' g Go)=>VH w' g Go hg);generalize zS Go=Gc at *
 go_enter Tryz.func90,Tryz.ntmps90
 go_wp2_with fail
 refine(HO.out _).mono ?_;rintro e w1 ⟨rfl,hb1⟩;have hz1:w1.heap[w.heap.size]? = some (.cells (gC gZ) 125 (0,0)):=by rw[hb1.block _ (yE _ _)];exact zH _ _
 have hs1:=tm (yE w _) hb1.size;have HB1:Hid (Below w.heap.size w w1):=(fe (tg _) _).trans (hb1.mono (pb (yE _ _)));have HZ1:=zA hz1;clear hb1 hz1 HO
 go_wp2_with (refine wpList_store_row ?zJW 125 (.tmp 3) (.tmp 5) ?ho w1.heap.size (gC Go) ?hx ?hy 125 (gC gZ) (zH w1 _) (kS HGL.out) ?zJY (tD Go) ?_
              case ho=>rfl
              case zJW=>rfl
              case hx=>rfl
              case hy=>rfl
              case zJY=>rw[xK,xK,xO,HGL.out])
 refine(HCh.out _ w1.heap.size ⟨bf _ _ (gC gZ) _ _ _ (zH w1 _),HGL.out⟩).mono ?_;rintro e w2 ⟨rfl,hb2⟩;have HBm:Hid (Below w.heap.size w ((w1.alloc (.cells (gC gZ) 125 (0,0))).setRow w1.heap.size (gC Go))):=yW (HB1.out.alloc (pb hs1) _) (pb hs1) _;have zK2:((w1.alloc (.cells (gC gZ) 125 (0,0))).setRow w1.heap.size (gC Go)).heap.size=w1.heap.size+1:=by unfold World.setRow;simp
 have HB2:Hid (Below w.heap.size w w2):=HBm.out.trans (hb2.mono (by rw[zK2];omega))
 have HZ2:Hid (w2.heap[w.heap.size]? = some (.cells (gC gZ) 125 (0,0))):=by
  unfold Hid;rw[hb2.block _ (by rw[zK2];omega),setRow_other _ _ _ _ (by omega)];exact yD HZ1.out
 clear hb2 HBm zK2 HCh
 go_wp2_with (refine wpList_store_row ?zJW 125 (.tmp 2) (.tmp 6) ?ho w.heap.size (gC Gc) ?hx ?hy 125 (gC gZ) HZ2.out (kS HCL.out) ?zJY (tD Gc) ?_
              case ho=>rfl
              case zJW=>rfl
              case hx=>rfl
              case hy=>rfl
              case zJY=>rw[xK,xK,xO,HCL.out])
 refine pm (v:=.agg (gC Gc)) (results_cell_row Tryz.results90 _ _ w.heap.size 125 (gC Gc) (0,0) _ rfl (bf _ _ (gC gZ) _ _ _ HZ2.out) Tryz.underlying125 rfl (kS HCL.out)) rfl ⟨rfl,yW HB2.out (tg _) _⟩
theorem BY(w:World)(s:Bs):∃wc cap,(convert 9 118 (.string ⟨s.toArray⟩)).run Tryz.prog w=.ok (.slice (some ⟨w.heap.size,0,none⟩) s.length cap) wc/\(convert 118 9 (.slice (some ⟨w.heap.size,0,none⟩) s.length cap)).run Tryz.prog wc=.ok (.string ⟨s.toArray⟩) wc/\Below w.heap.size w wc:=by
 have h1:=run_bytes_of_string (P:=Tryz.prog) w 9 118 5 ⟨s.toArray⟩ Tryz.underlying9 Tryz.underlying118 Tryz.underlying5;have zK2:(⟨s.toArray⟩:ByteArray).size=s.length:=by simp[ByteArray.size]
 rw[zK2]at h1;generalize grownCap w s.length 0 5=cap at h1;refine⟨_,cap,h1,?_,?_⟩
 ·refine run_convert_bytes_back (P:=Tryz.prog) _ 118 9 5 ⟨w.heap.size,0,none⟩ cap s Tryz.underlying118 Tryz.underlying5 Tryz.underlying9 (fun j hj=>?_)
  have h2:=zC (zH w.drew (.cells (bytesRow ⟨s.toArray⟩ cap) 5 ((bytesRow ⟨s.toArray⟩ cap).size,(bytesRow ⟨s.toArray⟩ cap).size+1))) j
  have h3:(bytesRow ⟨s.toArray⟩ cap)[j]? = some (.int .u8 (s[j].toNat:Int)):=by
   unfold bytesRow;rw[fb (by simpa using hj)];simp[hj]
  rw[h3]at h2;have e:(⟨w.heap.size,0,none⟩:Addr).add j=⟨w.heap.size,j,none⟩:=by simp[Addr.add];omega
  rw[e];exact h2
 ·exact(qY (tl w.heap.size w) 1).alloc (tg _) _
theorem CD(w:World)(s:Bs):Calls Tryz.prog 92 #[.string ⟨s.toArray⟩] w fun e w'=>e=.returned (.string ⟨s.toArray⟩)/\Below w.heap.size w w':=by
 obtain⟨wc,cap,kc1,kc2,hbc⟩:=BY w s;have HB:=zA hbc;clear hbc
 go_enter Tryz.func92,Tryz.ntmps92
 go_wp2_with fail
 go_ret
 exact⟨rfl,HB.out⟩
theorem ux:(vF ls).length<=(yY ls).length:=by
 have key:∀(S:List Nat) (hd:List Bs) (i:Nat) (acc:List (Bs × Nat)),(rU S hd i acc).length<=acc.length+hd.length:=by
  intro S hd
  induction hd with
  | nil=>intro i acc;simp[rU]
  | cons n r ih=>intro i acc;rw[rU];have:=ih (i+1) (if i<8 then acc++[(n,S.getD i 0)] else acc);split at this <;> simp at this ⊢ <;> split <;> omega
 have:=key (tL (jB (yY ls) ls gZ)) (yY ls) 0 [];unfold vF;simpa using this
theorem B9:(yY ls).length<=ls.length:=by
 have key:∀(ls:List zE) (acc:List Bs),(vO ls acc).length<=acc.length+ls.length:=by
  intro ls
  induction ls with
  | nil=>intro acc;simp[vO]
  | cons x r ih=>intro acc;rw[vO];have:=ih (if x.kind=3/\zJ acc x.conc<0 then acc++[x.conc] else acc);split at this <;> simp at this ⊢ <;> split <;> omega
 have:=key ls [];unfold yY;simpa using this
def cL(iv cv rv:Value)(G:List Bool):Array Value := #[iv,cv,rv]++gC G
def bH(iv cv rv:Value)(G:List Bool):Obj:=.cells (cL iv cv rv G) 127 (0,0)
theorem mJ(iv cv rv:Value)(G:List Bool):(cL iv cv rv G).size=3+G.length:=by unfold cL;rw[Array.size_append,xK];rfl
theorem YQ(iv cv rv:Value)(G:List Bool)(k:Nat)(hk:k<G.length):(cL iv cv rv G)[3+k]? = some (.bool (G.getD k false)):=by
 unfold cL gC;rw[dt (by simp)];simp[List.getD,hk]
theorem J7(iv cv rv:Value)(G:List Bool):(cL iv cv rv G)[0]? = some iv/\(cL iv cv rv G)[1]? = some cv/\(cL iv cv rv G)[2]? = some rv:=by
 unfold cL;refine⟨?_,?_,?_⟩ <;> rw[fb (by simp)] <;> rfl
theorem pD{G:List Bool}(h:w.heap[b]? = some (bH iv cv rv G)):w.cell? ⟨b,0,none⟩=some iv/\w.cell? ⟨b,1,none⟩=some cv/\w.cell? ⟨b,2,none⟩=some rv/\(∀k,k<G.length->w.cell? ⟨b,3+k,none⟩=some (.bool (G.getD k false)))/\∀j,w.frozen? ⟨b,j,none⟩=false:=by
 unfold bH at h;obtain⟨h0,h1,h2⟩:=J7 iv cv rv G;exact⟨(zC h 0).trans h0,(zC h 1).trans h1,(zC h 2).trans h2,fun k hk=>(zC h _).trans (YQ iv cv rv G k hk),fun j=>by simp[World.frozen?,h]⟩
theorem CK{G:List Bool}(h:w.heap[b]? = some (bH iv cv rv G)):(w.setCell ⟨b,0,none⟩ v).heap[b]? = some (bH v cv rv G):=by
 unfold bH at h ⊢;rw[p9 w b 0 _ _ _ h];congr 2;unfold cL;rw[Array.setIfInBounds_append,tr (by simp)];rfl
theorem zDT{G:List Bool}(h:w.heap[b]? = some (bH iv cv rv G)):(w.setCell ⟨b,1,none⟩ v).heap[b]? = some (bH iv v rv G):=by
 unfold bH at h ⊢;rw[p9 w b 1 _ _ _ h];congr 2;unfold cL;rw[Array.setIfInBounds_append,tr (by simp)];rfl
theorem zDS{G:List Bool}(h:w.heap[b]? = some (bH iv cv rv G)):(w.setCell ⟨b,2,none⟩ v).heap[b]? = some (bH iv cv v G):=by
 unfold bH at h ⊢;rw[p9 w b 2 _ _ _ h];congr 2;unfold cL;rw[Array.setIfInBounds_append,tr (by simp)];rfl
theorem Js(h:G.length=64):G=(List.range 64).map (fun i=>G.getD i false):=by
 apply List.ext_getElem?
 intro i;by_cases hi:i<64
 ·simp[hi,List.getD,h]
 ·rw[List.getElem?_eq_none (by omega),List.getElem?_eq_none (by simp;omega)]
theorem F6(h:G.length=64):Tryz.prog.built 127 [(3,.agg (gC G))]=some (cL (.slice none 0 0) (.slice none 0 0) (.slice none 0 0) G):=by
 have key:∀b:Nat->Bool,Tryz.prog.built 127 [(3,.agg (gC ((List.range 64).map b)))]=some (cL (.slice none 0 0) (.slice none 0 0) (.slice none 0 0) ((List.range 64).map b)):=fun b=>by kernel_rfl
 rw[Js G h];exact key _
theorem zEM:∀v∈gC G,v.oneCell'=true:=by
 intro v hv;have:=Array.all_eq_true_iff_forall_mem.1 (tD G) v hv;exact this
theorem J6(h0:iv.oneCell'=true)(h1:cv.oneCell'=true)(h2:rv.oneCell'=true)(G:List Bool):(cL iv cv rv G).all (·.oneCell')=true:=by
 rw[Array.all_eq_true_iff_forall_mem];intro v hv;unfold cL at hv;rcases Array.mem_append.1 hv with h|h
 ·simp at h;rcases h with rfl|rfl|rfl <;> assumption
 ·exact zEM G v h
theorem eT{G:List Bool}(h:G.length=64)(iv cv rv:Value):(Tryz.prog.info? 127).map (·.size)=some (cL iv cv rv G).size:=by rw[mJ,h];kernel_rfl
theorem KS:Tryz.zeroCells127=cL (.slice none 0 0) (.slice none 0 0) (.slice none 0 0) gZ:=by kernel_rfl
theorem qd(L:List (Bs × Nat))(i:Nat)(h:i<L.length):Zy (L.take (i+1))=Zy (L.take i)++[.string ⟨(L.getD i ([],0)).1.toArray⟩,.int .i64 ((L.getD i ([],0)).2:Nat)]:=by
 have:L.take (i+1)=L.take i++[L.getD i ([],0)]:=by rw[cy];simp[List.getD,h]
 rw[this,KV]
theorem eG(w:World)(B:Nat)(t:TypeId)(k:Nat):w.ownsRow B t k (.slice none 0 0) 0 []:=⟨by simp,.inl ⟨rfl,rfl⟩⟩
theorem Ud(w:World)(b o:Nat)(ia:Option Addr)(ic:Nat)(L:List zX)(nm:Bs)(hm:w.cell? ⟨b,o,none⟩=some (.slice ia L.length ic))(hc:jQ w ia (L.flatMap qI))(hf:L.length<=10000) :
 Calls Tryz.prog 86 #[.pointer (some ⟨b,o,none⟩),.string ⟨nm.toArray⟩] w fun e w'=>e=.returned (.int .i64 (zJ (L.map zX.name) nm))/\Below w.heap.size w w':=by
 have HC:=zA hc;clear hc
 go_enter Tryz.func86,Tryz.ntmps86
 go_wp2_with fail
 go_loopw [12] (fun iv wr=>∃(i:Nat),i<=L.length/\iv=.int .i64 i/\Hid (Below w.heap.size w wr)/\Hid (vN nm ((L.map zX.name).drop i) i=zJ (L.map zX.name) nm)) (fun iv _=>L.length-(intOf iv).toNat)
 case atStart=>exact⟨0,p7 _,rfl,zA (tl _ _),zA rfl⟩
 case round =>
  obtain⟨i,hi,rfl,HB,HE⟩:=hrel;have zK2:=HB.out.size;by_cases zJS:i<L.length
  ·have hcr:=HC.out.below HB.out
   obtain⟨g,rfl,q0⟩:=hcr.at ((zR qI 4 (fun _=>rfl) um L i 0 zJS (by decide)).trans rfl);have q1:=(hcr.at ((zR qI 4 (fun _=>rfl) um L i 1 zJS (by decide)).trans rfl)).elim fun g' h=>(show g=g' by simpa using h.1) ▸ h.2;have q2:=(hcr.at ((zR qI 4 (fun _=>rfl) um L i 2 zJS (by decide)).trans rfl)).elim fun g' h=>(show g=g' by simpa using h.1) ▸ h.2;have q3:=(hcr.at ((zR qI 4 (fun _=>rfl) um L i 3 zJS (by decide)).trans rfl)).elim fun g' h=>(show g=g' by simpa using h.1) ▸ h.2;rw[mz]at q0;have hE:=HE.out;rw[aI nm (L.map zX.name) i (by simpa using zJS)]at hE;have zJW:(L.map zX.name).getD i []=zX.name (L.getD i um):=by simp[List.getD,zJS]
   rw[zJW]at hE;have HE2:=zA hE;have lg:=zY q0;have mg:wr.heap.size≠g:=by omega
   clear HE hE hcr zJW;generalize L.getD i um=x at *;obtain⟨x0,x1,x2,x3⟩:=x;simp only at q0 q1 q2 q3 HE2;by_cases k1:x0=nm
   ·have HE3:Hid (zJ (L.map zX.name) nm=i):=by have:=HE2.out;rw[tr k1]at this;exact this.symm
    have b1:(x0==nm)=true:=by simpa using k1
    clear HE2 k1;go_wp2_with fail
    go_ret
    exact⟨yR HE3.out.symm,HB.out.alloc zK2 _⟩
   ·have HE3:Hid (vN nm ((L.map zX.name).drop (i+1)) (i+1)=zJ (L.map zX.name) nm):=by have:=HE2.out;rw[tj k1]at this;exact this
    have b1:(x0==nm)=false:=by simpa using k1
    clear HE2 k1;go_wp2_with fail
    go_roundw
    case rel=>exact⟨i+1,by omega,by go_num,zA (HB.out.alloc zK2 _),HE3⟩
    case measure=>simp[intOf];omega
  ·have HE3:Hid (zJ (L.map zX.name) nm = -1):=by have:=HE.out;rw[pe (by simp;omega)]at this;exact this.symm
   clear HE;go_wp2_with fail
   go_ret
   exact⟨yR HE3.out.symm,HB.out⟩
def zDX(x:Bs × Nat):List Value:=[.string ⟨x.1.toArray⟩,.int .i64 (x.2:Nat)]
theorem BT(w:World)(b o:Nat)(ia:Option Addr)(ic:Nat)(L:List (Bs × Nat))(nm:Bs)(hm:w.cell? ⟨b,o+1,none⟩=some (.slice ia L.length ic))(hc:jQ w ia (L.flatMap zDX))(hf:L.length<=10000) :
 Calls Tryz.prog 137 #[.pointer (some ⟨b,o,none⟩),.string ⟨nm.toArray⟩] w fun e w'=>e=.returned (.int .i64 (zJ (L.map Prod.fst) nm))/\Below w.heap.size w w':=by
 have HC:=zA hc;clear hc
 go_enter Tryz.func137,Tryz.ntmps137
 go_wp2_with fail
 go_loopw [12] (fun iv wr=>∃(i:Nat),i<=L.length/\iv=.int .i64 i/\Hid (Below w.heap.size w wr)/\Hid (vN nm ((L.map Prod.fst).drop i) i=zJ (L.map Prod.fst) nm)) (fun iv _=>L.length-(intOf iv).toNat)
 case atStart=>exact⟨0,p7 _,rfl,zA (tl _ _),zA rfl⟩
 case round =>
  obtain⟨i,hi,rfl,HB,HE⟩:=hrel;have zK2:=HB.out.size;by_cases zJS:i<L.length
  ·have hcr:=HC.out.below HB.out
   obtain⟨g,rfl,q0⟩:=hcr.at ((zR zDX 2 (fun _=>rfl) ([],0) L i 0 zJS (by decide)).trans rfl);have q1:=(hcr.at ((zR zDX 2 (fun _=>rfl) ([],0) L i 1 zJS (by decide)).trans rfl)).elim fun g' h=>(show g=g' by simpa using h.1) ▸ h.2;rw[mz]at q0;have hE:=HE.out;rw[aI nm (L.map Prod.fst) i (by simpa using zJS)]at hE;have zJW:(L.map Prod.fst).getD i []=Prod.fst (L.getD i ([],0)):=by simp[List.getD,zJS]
   rw[zJW]at hE;have HE2:=zA hE;have lg:=zY q0;have mg:wr.heap.size≠g:=by omega
   clear HE hE hcr zJW;generalize L.getD i ([],0)=x at *;obtain⟨x0,x1⟩:=x;simp only at q0 q1 HE2;by_cases k1:x0=nm
   ·have HE3:Hid (zJ (L.map Prod.fst) nm=i):=by have:=HE2.out;rw[tr k1]at this;exact this.symm
    have b1:(x0==nm)=true:=by simpa using k1
    clear HE2 k1;go_wp2_with fail
    go_ret
    exact⟨yR HE3.out.symm,HB.out.alloc zK2 _⟩
   ·have HE3:Hid (vN nm ((L.map Prod.fst).drop (i+1)) (i+1)=zJ (L.map Prod.fst) nm):=by have:=HE2.out;rw[tj k1]at this;exact this
    have b1:(x0==nm)=false:=by simpa using k1
    clear HE2 k1;go_wp2_with fail
    go_roundw
    case rel=>exact⟨i+1,by omega,by go_num,zA (HB.out.alloc zK2 _),HE3⟩
    case measure=>simp[intOf];omega
  ·have HE3:Hid (zJ (L.map Prod.fst) nm = -1):=by have:=HE.out;rw[pe (by simp;omega)]at this;exact this.symm
   clear HE;go_wp2_with fail
   go_ret
   exact⟨yR HE3.out.symm,HB.out⟩
end Go.Proofs.YtnbpdffdnphbeabGreatDoor
