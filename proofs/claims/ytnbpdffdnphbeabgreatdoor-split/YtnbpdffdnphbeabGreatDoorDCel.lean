import Derived.Test.YtnbpdffdnphbeabGreatDoorRgLinks
import Derived.Laws.IdiomStrings
set_option maxHeartbeats 2000000
set_option maxRecDepth 100000
namespace Go.Proofs.YtnbpdffdnphbeabGreatDoor
open Go.RowKit
variable{xs:List Value}{j k b B n:Nat}{a:Option Addr}{t:TypeId}{cv rv v iv:Value}{w' w:World}(ls:List zE)(G:List Bool)
def tZ(w:World)(a:Option Addr)(xs:List Value):Prop:=xs=[]\/∃g,a=some ⟨g,0,none⟩/\∀j,j<xs.length->w.cell? ⟨g,j,none⟩=xs[j]?
theorem tZ.below(h:tZ w a xs)(hb:Below w.heap.size w w'):tZ w' a xs:=by
 rcases h with h|⟨g,h1,h2⟩
 ·exact .inl h
 ·refine .inr ⟨g,h1,fun j hj=>?_⟩
  have h3:=h2 j hj;rw[pb hj]at h3;rw[hb.cell (p:=⟨g,j,none⟩) (yQ h3),h3,pb hj]
theorem tZ.at(h:tZ w a xs)(hj:xs[j]? = some v):∃g,a=some ⟨g,0,none⟩/\w.cell? ⟨g,j,none⟩=some v:=by
 rcases h with h|⟨g,h1,h2⟩
 ·rw[h]at hj;simp at hj
 ·exact⟨g,h1,(h2 j (List.getElem?_eq_some_iff.1 hj).1).trans hj⟩
theorem gY(h:w.ownsRow B t k v n xs):∃a c,v=.slice a n c/\tZ w a xs/\n<=c/\c<=maxLen:=by
 have hl:=h.1;rcases h.2 with ⟨h1,h2⟩|⟨g,cap,yK,h1,_,h3,h4,h5,_,h7⟩
 ·refine⟨none,0,by rw[h1,h2],.inl (my (by rw[hl,h2,dz])),by omega,p7 _⟩
 ·exact⟨some ⟨g,0,none⟩,cap,h1,.inr ⟨g,rfl,fun j hj=>by
   have:=pb hj;rw[this];exact xO h3 (n:=n*k) h7 this⟩,h4,h5⟩
theorem zN{α:Type}(f:α->List Value)(k:Nat)(hf:∀x,(f x).length=k)(d:α)(L:List α):∀i r,i<L.length->r<k->(L.flatMap f)[i*k+r]? = (f (L.getD i d))[r]? := by
 induction L with
 | nil=>intro i r h;simp at h
 | cons x L ih =>
   intro i r hi hr;rw[bh]
   cases i with
   | zero=>rw[dz,cx,ms (by rw[hf];exact hr)];rfl
   | succ i =>
     rw[lj (by rw[hf];rw[Nat.succ_mul];omega),hf,show (i+1)*k+r-k=i*k+r by rw[Nat.succ_mul];omega,ih i r (by simpa using hi) hr];rfl
theorem dC{α:Type}(f:α->List Value)(k:Nat)(hf:∀x,(f x).length=k)(L:List α):(L.flatMap f).length=L.length*k:=by
 induction L with
 | nil=>simp
 | cons x L ih=>rw[bh,tm,hf,ih,pf,Nat.succ_mul,Nat.add_comm]
def yZ(w:World)(t:TypeId)(a:Option Addr)(xs:List Value):Prop:=xs=[]\/∃g cs fz,a=some ⟨g,0,none⟩/\w.heap[g]? = some (.cells cs t fz)/\∀j,j<xs.length->cs[j]? = xs[j]?
theorem yZ.cel(h:yZ w t a xs):tZ w a xs:=by
 rcases h with h|⟨g,cs,fz,h1,h2,h3⟩
 ·exact .inl h
 ·exact .inr ⟨g,h1,fun j hj=>(zB h2 j).trans (h3 j hj)⟩
theorem vR(h:w.ownsRow B t k v n xs):∃a c,v=.slice a n c/\yZ w t a xs:=by
 have hl:=h.1;rcases h.2 with ⟨h1,h2⟩|⟨g,cap,yK,h1,_,h3,h4,h5,_,h7⟩
 ·exact⟨none,0,by rw[h1,h2],.inl (my (by rw[hl,h2,dz]))⟩
 ·exact⟨some ⟨g,0,none⟩,cap,h1,.inr ⟨g,yK,_,rfl,h3,fun j hj=>by
   rw[<-h7,df,tl (by rw[<-hl];exact hj),du]⟩⟩
theorem yZ.keep(h:yZ w t a xs)(hk:∀(g:Nat) (cs:Array Value) (fz:Nat × Nat),w.heap[g]? = some (Obj.cells cs t fz)->w'.heap[g]? = w.heap[g]?):yZ w' t a xs:=by
 rcases h with h|⟨g,cs,fz,h1,h2,h3⟩
 ·exact .inl h
 ·exact .inr ⟨g,cs,fz,h1,by rw[hk g cs fz h2];exact h2,h3⟩
theorem yZ.below(h:yZ w t a xs)(hb:Below w.heap.size w w'):yZ w' t a xs :=
 h.keep fun g _ _ hg=>hb.block g (zJ hg)
theorem yZ.grown{e:TypeId}{ys:List Value}(h:yZ w t a xs)(zL1:w.ownsRow B e k v n ys)(zL4:t≠e)(hg:w.grownBy w' v.ownBlock):yZ w' t a xs :=
 h.keep fun g cs fz hgg=>hg.block g (zJ hgg) (fun e1=>by
  rcases zL1.2 with ⟨k1,_⟩|⟨g',cap,yK,k1,_,k3,_⟩
  ·rw[k1]at e1;simp[Value.ownBlock]at e1
  ·rw[k1]at e1;simp[Value.ownBlock]at e1
   subst e1;rw[hgg]at k3;simp only[ld,Obj.cells.injEq]at k3;exact zL4 k3.2.1)
theorem yZ.set(h:yZ w t a xs){u:Value}{cs:Array Value}{t':TypeId}{fz:Nat × Nat}(hb:w.heap[b]? = some (.cells cs t' fz))(zL4:t≠t'):yZ (w.setCell ⟨b,j,none⟩ u) t a xs :=
 h.keep fun g cs' fz' hg=>lk _ _ _ _ (fun e=>by
  subst e;rw[hb]at hg;simp only[ld,Obj.cells.injEq]at hg;exact zL4 hg.2.1.symm)
theorem yS(w:World)(o:Obj)(H:Nat)(hH:w.heap.size=H):(w.alloc o).heap[H]? = some o:=by subst hH;exact zG _ _
def rR(B:Nat)(w:World)(t:TypeId)(a:Option Addr)(xs:List Value):Prop:=xs=[]\/∃g cs,B<=g/\a=some ⟨g,0,none⟩/\w.heap[g]? = some (.cells cs t (0,0))/\∀j,j<xs.length->cs[j]? = xs[j]?
theorem rR.below(h:rR B w t a xs)(hb:Below w.heap.size w w'):rR B w' t a xs:=by
 rcases h with h|⟨g,cs,h0,h1,h2,h3⟩
 ·exact .inl h
 ·exact .inr ⟨g,cs,h0,h1,(hb.block g (zJ h2)).trans h2,h3⟩
theorem rR.set(h:rR B w t a xs){u:Value}{cs:Array Value}{t':TypeId}{fz:Nat × Nat}(hb:w.heap[b]? = some (.cells cs t' fz))(zL4:t≠t'):rR B (w.setCell ⟨b,j,none⟩ u) t a xs:=by
 rcases h with h|⟨g,cs',h0,h1,h2,h3⟩
 ·exact .inl h
 ·refine .inr ⟨g,cs',h0,h1,?_,h3⟩
  rw[lk _ _ _ _ (fun e=>by
   subst e;rw[hb]at h2;simp only[ld,Obj.cells.injEq]at h2;exact zL4 h2.2.1.symm)]
  exact h2
theorem rR.mono{B':Nat}(h:rR B w t a xs)(hB:B'<=B):rR B' w t a xs:=by
 rcases h with h|⟨g,cs,h0,h1,h2,h3⟩
 ·exact .inl h
 ·exact .inr ⟨g,cs,by omega,h1,h2,h3⟩
theorem zB6{B0 m c:Nat}(h:w.ownsRow B t k (.slice a m c) n xs)(hB:B0<=B):rR B0 w t a xs:=by
 have hl:=h.1;rcases h.2 with ⟨h1,h2⟩|⟨g,cap,yK,h1,hB2,h3,h4,h5,_,h7⟩
 ·exact .inl (my (by rw[hl,h2,dz]))
 ·simp only[cr]at h1
  exact .inr ⟨g,yK,by omega,h1.1,h3,fun j hj=>by
   rw[<-h7,df,tl (by rw[<-hl];exact hj),du]⟩
structure qY where
 kind:Int
 left:Int
 right:Int
 place:Int
 two:Bool
 other:Int
 num:Int
 less:Bool
 equal:Bool
 more:Bool
def qN(x:qY):List Value:=[.int .i64 x.kind,.int .i64 x.left,.int .i64 x.right,.int .i64 x.place,.bool x.two,.int .i64 x.other,.int .i64 x.num,.bool x.less,.bool x.equal,.bool x.more]
def nD(x:qY):Value:=.agg #[.int .i64 x.kind,.int .i64 x.left,.int .i64 x.right,.int .i64 x.place,.bool x.two,.int .i64 x.other,.int .i64 x.num,.bool x.less,.bool x.equal,.bool x.more]
structure lX where
 kind:Int
 num:Int
 place:Int
def tW(x:lX):List Value:=[.int .i64 x.kind,.int .i64 x.num,.int .i64 x.place]
def B9:lX:=⟨0,0,0⟩
def oO:qY:=⟨0,0,0,0,false,0,0,false,false,false⟩
structure xJ where
 label:Bs
 conc:Int
 sum:List lX
 guard:List qY
 root:Int
abbrev MX:=xJ × Value × Value
def uC(x:MX):Value:=.agg #[.string ⟨x.1.label.toArray⟩,.int .i64 x.1.conc,x.2.1,x.2.2,.int .i64 x.1.root]
def jL(x:MX):List Value:=[.string ⟨x.1.label.toArray⟩,.int .i64 x.1.conc,x.2.1,x.2.2,.int .i64 x.1.root]
structure uL(w:World)(x:MX):Prop where
 sum:∃a c,x.2.1=.slice a x.1.sum.length c/\yZ w 260 a (x.1.sum.flatMap tW)
 guard:∃a c,x.2.2=.slice a x.1.guard.length c/\yZ w 263 a (x.1.guard.flatMap qN)
 few1:x.1.sum.length<=10000
 few2:x.1.guard.length<=10000
theorem uL.below{x:MX}(h:uL w x)(hb:Below w.heap.size w w'):uL w' x:=by
 obtain⟨a,c,h1,h2⟩:=h.sum;obtain⟨a',c',h3,h4⟩:=h.guard;exact⟨⟨a,c,h1,h2.below hb⟩,⟨a',c',h3,h4.below hb⟩,h.few1,h.few2⟩
structure zQ where
 name:Bs
 isFlag:Bool
 low:Int
 high:Int
def ZQ(x:zQ):Value:=.agg #[.string ⟨x.name.toArray⟩,.bool x.isFlag,.int .i64 x.low,.int .i64 x.high]
def uI(x:zQ):List Value:=[.string ⟨x.name.toArray⟩,.bool x.isFlag,.int .i64 x.low,.int .i64 x.high]
def iI:zQ:=⟨[],false,0,0⟩
def mB(x:zE):zQ:=if x.kind=1 then ⟨x.name,false,x.low,x.high⟩ else ⟨x.name,true,0,0⟩
def cY:List zE->List zQ->List zQ
 | [],acc=>acc
 | x::r,acc=>cY r (if x.kind=1\/x.kind=2 then acc++[mB x] else acc)
def zX(ls:List zE):List zQ:=cY ls []
def vX(ls:List zE):List Bs:=(zX ls).map zQ.name
theorem BR(i:Nat)(acc:List zQ)(h:i<ls.length):cY (ls.drop i) acc=cY (ls.drop (i+1)) (if (lA ls i).kind=1\/(lA ls i).kind=2 then acc++[mB (lA ls i)] else acc):=by
 rw[po h,cY];simp[lA,List.getD,h]
def JD(ins:List Bs)(x:xE):Int:=if x.name=[] then 1 else if zH ins x.name<0 then 3 else 2
def zr(ins cs:List Bs)(x:xE):Int:=if x.name=[] then 0 else if zH ins x.name<0 then zH cs x.name else zH ins x.name
def U4(x:xE):Int:=if x.name=[] then x.num else if x.starred then x.num else 1
def xT(ins cs:List Bs)(x:xE):lX:=⟨JD ins x,if x.minus then -U4 x else U4 x,zr ins cs x⟩
def U5(ins cs:List Bs)(x:zT):Int:=if x.kind=5 then zH cs x.name else if x.kind=6\/x.kind=7 then zH ins x.name else 0
def zGD(ins:List Bs)(x:zT):Int:=if x.other=[] then 0 else zH ins x.other
def Ds(m:Bs):Bool:=decide (m=[60]\/m=[60,61]\/m=[33,61])
def JI(m:Bs):Bool:=decide (m=[60,61]\/m=[61]\/m=[62,61])
def Dr(m:Bs):Bool:=decide (m=[62]\/m=[62,61]\/m=[33,61])
def pY(ins cs:List Bs)(x:zT):qY:=⟨x.kind,x.left,x.right,U5 ins cs x,decide (x.other≠[]),zGD ins x,x.num,Ds x.mark,JI x.mark,Dr x.mark⟩
def qG(ins cs:List Bs)(x:zE):xJ:=⟨x.name,zH cs x.conc,x.sum.map (xT ins cs),x.nd.map (pY ins cs),x.root⟩
def fF(ins cs:List Bs):List zE->List xJ->List xJ
 | [],acc=>acc
 | x::r,acc=>fF ins cs r (if x.kind=3 then acc++[qG ins cs x] else acc)
def uQ(ins cs:List Bs)(ls:List zE):List xJ:=fF ins cs ls []
theorem KR(ins cs:List Bs)(ls:List zE)(i:Nat)(acc:List xJ)(h:i<ls.length):fF ins cs (ls.drop i) acc=fF ins cs (ls.drop (i+1)) (if (lA ls i).kind=3 then acc++[qG ins cs (lA ls i)] else acc):=by
 rw[po h,fF];simp[lA,List.getD,h]
theorem F1(ins cs:List Bs)(ls:List zE):∀acc,fF ins cs ls acc=acc++(ls.filter fun x=>decide (x.kind=3)).map (qG ins cs):=by
 induction ls with
 | nil=>intro acc;simp[fF]
 | cons x r ih=>intro acc;rw[fF,ih];by_cases h:x.kind=3 <;> simp[h]
theorem Xw:∀acc,cY ls acc=acc++(ls.filter fun x=>decide (x.kind=1\/x.kind=2)).map mB:=by
 induction ls with
 | nil=>intro acc;simp[cY]
 | cons x r ih=>intro acc;rw[cY,ih];by_cases h:x.kind=1\/x.kind=2 <;> simp[h]
theorem Xz(x:zE):(mB x).name=x.name:=by unfold mB;split <;> rfl
theorem fX:vX ls=(ls.filter fun x=>decide (x.kind=1\/x.kind=2)).map zE.name:=by
 unfold vX zX;rw[Xw,db,List.map_map];congr 1;funext x;exact Xz x
theorem zBT(w:World)(a:Option Addr)(c:Nat)(ls:List LX)(h:jS w a ls) :
 Calls Tryz.prog 90 #[.slice a ls.length c] w fun e w'=>e=.returned (.agg (gC (yB (uW (vD (fs ls)) (fs ls) gZ))))/\Below w.heap.size w w':=by
 have HO:=zA (fun o=>DQ (w.alloc o) a c ls (h.below (gb (j1 _) o) (j1 _)));have HGL:Hid ((uW (vD (fs ls)) (fs ls) gZ).length=64):=by unfold Hid;rw[lT];exact xK
 clear h;generalize uW (vD (fs ls)) (fs ls) gZ=Go at *;have HCL:Hid ((yB Go).length=64):=by unfold Hid yB;rw[oD];exact HGL.out
 have HCh:=zA (fun w' g (hg:eN w' g Go)=>Ua w' g Go hg);generalize yB Go=Gc at *
 go_enter Tryz.func90,Tryz.ntmps90
 go_wp2_with fail
 refine(HO.out _).mono ?_;rintro e w1 ⟨rfl,hb1⟩;have hz1:w1.heap[w.heap.size]? = some (.cells (gC gZ) 125 (0,0)):=by rw[hb1.block _ (zV _ _)];exact zG _ _
 have hs1:=tj (zV w _) hb1.size;have HB1:Hid (Below w.heap.size w w1):=(gb (j1 _) _).trans (hb1.mono (ph (zV _ _)));have HZ1:=zA hz1;clear hb1 hz1 HO
 go_wp2_with (refine wpList_store_row ?zLA 125 (.tmp 3) (.tmp 5) ?ho w1.heap.size (gC Go) ?hx ?hy 125 (gC gZ) (zG w1 _) (kR HGL.out) ?zLB (lF Go) ?_
              case ho=>rfl
              case zLA=>rfl
              case hx=>rfl
              case hy=>rfl
              case zLB=>rw[uG,uG,xK,HGL.out])
 refine(HCh.out _ w1.heap.size ⟨cg _ _ (gC gZ) _ _ _ (zG w1 _),HGL.out⟩).mono ?_;rintro e w2 ⟨rfl,hb2⟩;have HBm:Hid (Below w.heap.size w ((w1.alloc (.cells (gC gZ) 125 (0,0))).setRow w1.heap.size (gC Go))):=xI (HB1.out.alloc (ph hs1) _) (ph hs1) _;have zL8:((w1.alloc (.cells (gC gZ) 125 (0,0))).setRow w1.heap.size (gC Go)).heap.size=w1.heap.size+1:=by unfold World.setRow;simp
 have HB2:Hid (Below w.heap.size w w2):=HBm.out.trans (hb2.mono (by rw[zL8];omega))
 have HZ2:Hid (w2.heap[w.heap.size]? = some (.cells (gC gZ) 125 (0,0))):=by
  unfold Hid;rw[hb2.block _ (by rw[zL8];omega),setRow_other _ _ _ _ (by omega)];exact zS HZ1.out
 clear hb2 HBm zL8 HCh
 go_wp2_with (refine wpList_store_row ?zLA 125 (.tmp 2) (.tmp 6) ?ho w.heap.size (gC Gc) ?hx ?hy 125 (gC gZ) HZ2.out (kR HCL.out) ?zLB (lF Gc) ?_
              case ho=>rfl
              case zLA=>rfl
              case hx=>rfl
              case hy=>rfl
              case zLB=>rw[uG,uG,xK,HCL.out])
 refine pe (v:=.agg (gC Gc)) (results_cell_row Tryz.results90 _ _ w.heap.size 125 (gC Gc) (0,0) _ rfl (cg _ _ (gC gZ) _ _ _ HZ2.out) Tryz.underlying125 rfl (kR HCL.out)) rfl ⟨rfl,xI HB2.out (j1 _) _⟩
theorem Cu(w:World)(s:Bs):∃wc cap,(convert 9 118 (.string ⟨s.toArray⟩)).run Tryz.prog w=.ok (.slice (some ⟨w.heap.size,0,none⟩) s.length cap) wc/\(convert 118 9 (.slice (some ⟨w.heap.size,0,none⟩) s.length cap)).run Tryz.prog wc=.ok (.string ⟨s.toArray⟩) wc/\Below w.heap.size w wc:=by
 have h1:=run_bytes_of_string (P:=Tryz.prog) w 9 118 5 ⟨s.toArray⟩ Tryz.underlying9 Tryz.underlying118 Tryz.underlying5;have zL8:(⟨s.toArray⟩:ByteArray).size=s.length:=by simp[ByteArray.size]
 rw[zL8]at h1;generalize grownCap w s.length 0 5=cap at h1;refine⟨_,cap,h1,?_,?_⟩
 ·refine run_convert_bytes_back (P:=Tryz.prog) _ 118 9 5 ⟨w.heap.size,0,none⟩ cap s Tryz.underlying118 Tryz.underlying5 Tryz.underlying9 (fun j hj=>?_)
  have h2:=zB (zG w.drew (.cells (bytesRow ⟨s.toArray⟩ cap) 5 ((bytesRow ⟨s.toArray⟩ cap).size,(bytesRow ⟨s.toArray⟩ cap).size+1))) j
  have h3:(bytesRow ⟨s.toArray⟩ cap)[j]? = some (.int .u8 (s[j].toNat:Int)):=by
   unfold bytesRow;rw[fj (by simpa using hj)];simp[hj]
  rw[h3]at h2;have e:(⟨w.heap.size,0,none⟩:Addr).add j=⟨w.heap.size,j,none⟩:=by simp[Addr.add];omega
  rw[e];exact h2
 ·exact(xR (tg w.heap.size w) 1).alloc (j1 _) _
theorem Dj(w:World)(s:Bs):Calls Tryz.prog 92 #[.string ⟨s.toArray⟩] w fun e w'=>e=.returned (.string ⟨s.toArray⟩)/\Below w.heap.size w w':=by
 obtain⟨wc,cap,kc1,kc2,hbc⟩:=Cu w s;have HB:=zA hbc;clear hbc
 go_enter Tryz.func92,Tryz.ntmps92
 go_wp2_with fail
 go_ret
 exact⟨rfl,HB.out⟩
theorem km:(yY ls).length<=(zO ls).length:=by
 have key:∀(S:List Nat) (hd:List Bs) (i:Nat) (acc:List (Bs × Nat)),(sQ S hd i acc).length<=acc.length+hd.length:=by
  intro S hd
  induction hd with
  | nil=>intro i acc;simp[sQ]
  | cons n r ih=>intro i acc;rw[sQ];have:=ih (i+1) (if i<8 then acc++[(n,S.getD i 0)] else acc);split at this <;> simp at this ⊢ <;> split <;> omega
 have:=key (tC (qM (zO ls) ls gZ)) (zO ls) 0 [];unfold yY;simpa using this
theorem BS:(zO ls).length<=ls.length:=by
 have key:∀(ls:List zE) (acc:List Bs),(uM ls acc).length<=acc.length+ls.length:=by
  intro ls
  induction ls with
  | nil=>intro acc;simp[uM]
  | cons x r ih=>intro acc;rw[uM];have:=ih (if x.kind=3/\zH acc x.conc<0 then acc++[x.conc] else acc);split at this <;> simp at this ⊢ <;> split <;> omega
 have:=key ls [];unfold zO;simpa using this
def dM(iv cv rv:Value)(G:List Bool):Array Value := #[iv,cv,rv]++gC G
def bU(iv cv rv:Value)(G:List Bool):Obj:=.cells (dM iv cv rv G) 127 (0,0)
theorem mA(iv cv rv:Value)(G:List Bool):(dM iv cv rv G).size=3+G.length:=by unfold dM;rw[Array.size_append,uG];rfl
theorem Xi(iv cv rv:Value)(G:List Bool)(k:Nat)(hk:k<G.length):(dM iv cv rv G)[3+k]? = some (.bool (G.getD k false)):=by
 unfold dM gC;rw[dr (by simp)];simp[List.getD,hk]
theorem JH(iv cv rv:Value)(G:List Bool):(dM iv cv rv G)[0]? = some iv/\(dM iv cv rv G)[1]? = some cv/\(dM iv cv rv G)[2]? = some rv:=by
 unfold dM;refine⟨?_,?_,?_⟩ <;> rw[fj (by simp)] <;> rfl
theorem tT{G:List Bool}(h:w.heap[b]? = some (bU iv cv rv G)):w.cell? ⟨b,0,none⟩=some iv/\w.cell? ⟨b,1,none⟩=some cv/\w.cell? ⟨b,2,none⟩=some rv/\(∀k,k<G.length->w.cell? ⟨b,3+k,none⟩=some (.bool (G.getD k false)))/\∀j,w.frozen? ⟨b,j,none⟩=false:=by
 unfold bU at h;obtain⟨h0,h1,h2⟩:=JH iv cv rv G;exact⟨(zB h 0).trans h0,(zB h 1).trans h1,(zB h 2).trans h2,fun k hk=>(zB h _).trans (Xi iv cv rv G k hk),fun j=>by simp[World.frozen?,h]⟩
theorem Dq{G:List Bool}(h:w.heap[b]? = some (bU iv cv rv G)):(w.setCell ⟨b,0,none⟩ v).heap[b]? = some (bU v cv rv G):=by
 unfold bU at h ⊢;rw[tr w b 0 _ _ _ h];congr 2;unfold dM;rw[Array.setIfInBounds_append,tl (by simp)];rfl
theorem zE7{G:List Bool}(h:w.heap[b]? = some (bU iv cv rv G)):(w.setCell ⟨b,1,none⟩ v).heap[b]? = some (bU iv v rv G):=by
 unfold bU at h ⊢;rw[tr w b 1 _ _ _ h];congr 2;unfold dM;rw[Array.setIfInBounds_append,tl (by simp)];rfl
theorem zE6{G:List Bool}(h:w.heap[b]? = some (bU iv cv rv G)):(w.setCell ⟨b,2,none⟩ v).heap[b]? = some (bU iv cv v G):=by
 unfold bU at h ⊢;rw[tr w b 2 _ _ _ h];congr 2;unfold dM;rw[Array.setIfInBounds_append,tl (by simp)];rfl
theorem J8(h:G.length=64):G=(List.range 64).map (fun i=>G.getD i false):=by
 apply List.ext_getElem?
 intro i;by_cases hi:i<64
 ·simp[hi,List.getD,h]
 ·rw[fw (by omega),fw (by simp;omega)]
theorem FU(h:G.length=64):Tryz.prog.built 127 [(3,.agg (gC G))]=some (dM (.slice none 0 0) (.slice none 0 0) (.slice none 0 0) G):=by
 have key:∀b:Nat->Bool,Tryz.prog.built 127 [(3,.agg (gC ((List.range 64).map b)))]=some (dM (.slice none 0 0) (.slice none 0 0) (.slice none 0 0) ((List.range 64).map b)):=fun b=>by kernel_rfl
 rw[J8 G h];exact key _
theorem zF1:∀v∈gC G,v.oneCell'=true:=by
 intro v hv;have:=Array.all_eq_true_iff_forall_mem.1 (lF G) v hv;exact this
theorem JG(h0:iv.oneCell'=true)(h1:cv.oneCell'=true)(h2:rv.oneCell'=true)(G:List Bool):(dM iv cv rv G).all (·.oneCell')=true:=by
 rw[Array.all_eq_true_iff_forall_mem];intro v hv;unfold dM at hv;rcases Array.mem_append.1 hv with h|h
 ·simp at h;rcases h with rfl|rfl|rfl <;> assumption
 ·exact zF1 G v h
theorem iG{G:List Bool}(h:G.length=64)(iv cv rv:Value):(Tryz.prog.info? 127).map (·.size)=some (dM iv cv rv G).size:=by rw[mA,h];kernel_rfl
theorem Vp:Tryz.zeroCells127=dM (.slice none 0 0) (.slice none 0 0) (.slice none 0 0) gZ:=by kernel_rfl
theorem ks(L:List (Bs × Nat))(i:Nat)(h:i<L.length):Zj (L.take (i+1))=Zj (L.take i)++[.string ⟨(L.getD i ([],0)).1.toArray⟩,.int .i64 ((L.getD i ([],0)).2:Nat)]:=by
 have:L.take (i+1)=L.take i++[L.getD i ([],0)]:=by rw[cy];simp[List.getD,h]
 rw[this,Vs]
theorem iD(w:World)(B:Nat)(t:TypeId)(k:Nat):w.ownsRow B t k (.slice none 0 0) 0 []:=⟨by simp,.inl ⟨rfl,rfl⟩⟩
theorem Ya(w:World)(b o:Nat)(ia:Option Addr)(ic:Nat)(L:List zQ)(nm:Bs)(hm:w.cell? ⟨b,o,none⟩=some (.slice ia L.length ic))(hc:tZ w ia (L.flatMap uI))(hf:L.length<=10000) :
 Calls Tryz.prog 86 #[.pointer (some ⟨b,o,none⟩),.string ⟨nm.toArray⟩] w fun e w'=>e=.returned (.int .i64 (zH (L.map zQ.name) nm))/\Below w.heap.size w w':=by
 have HC:=zA hc;clear hc
 go_enter Tryz.func86,Tryz.ntmps86
 go_wp2_with fail
 go_loopw [12] (fun iv wr=>∃(i:Nat),i<=L.length/\iv=.int .i64 i/\Hid (Below w.heap.size w wr)/\Hid (qK nm ((L.map zQ.name).drop i) i=zH (L.map zQ.name) nm)) (fun iv _=>L.length-(intOf iv).toNat)
 case atStart=>exact⟨0,p7 _,rfl,zA (tg _ _),zA rfl⟩
 case round =>
  obtain⟨i,hi,rfl,HB,HE⟩:=hrel;have zL8:=HB.out.size;by_cases zKZ:i<L.length
  ·have hcr:=HC.out.below HB.out
   obtain⟨g,rfl,q0⟩:=hcr.at ((zN uI 4 (fun _=>rfl) iI L i 0 zKZ (by decide)).trans rfl);have q1:=(hcr.at ((zN uI 4 (fun _=>rfl) iI L i 1 zKZ (by decide)).trans rfl)).elim fun g' h=>(show g=g' by simpa using h.1) ▸ h.2;have q2:=(hcr.at ((zN uI 4 (fun _=>rfl) iI L i 2 zKZ (by decide)).trans rfl)).elim fun g' h=>(show g=g' by simpa using h.1) ▸ h.2;have q3:=(hcr.at ((zN uI 4 (fun _=>rfl) iI L i 3 zKZ (by decide)).trans rfl)).elim fun g' h=>(show g=g' by simpa using h.1) ▸ h.2;rw[l9]at q0;have hE:=HE.out;rw[aZ nm (L.map zQ.name) i (by simpa using zKZ)]at hE;have zLA:(L.map zQ.name).getD i []=zQ.name (L.getD i iI):=by simp[List.getD,zKZ]
   rw[zLA]at hE;have HE2:=zA hE;have lg:=yQ q0;have mg:wr.heap.size≠g:=by omega
   clear HE hE hcr zLA;generalize L.getD i iI=x at *;obtain⟨x0,x1,x2,x3⟩:=x;simp only at q0 q1 q2 q3 HE2;by_cases k1:x0=nm
   ·have HE3:Hid (zH (L.map zQ.name) nm=i):=by have:=HE2.out;rw[tl k1]at this;exact this.symm
    have b1:(x0==nm)=true:=by simpa using k1
    clear HE2 k1;go_wp2_with fail
    go_ret
    exact⟨yP HE3.out.symm,HB.out.alloc zL8 _⟩
   ·have HE3:Hid (qK nm ((L.map zQ.name).drop (i+1)) (i+1)=zH (L.map zQ.name) nm):=by have:=HE2.out;rw[tb k1]at this;exact this
    have b1:(x0==nm)=false:=by simpa using k1
    clear HE2 k1;go_wp2_with fail
    go_roundw
    case rel=>exact⟨i+1,by omega,by go_num,zA (HB.out.alloc zL8 _),HE3⟩
    case measure=>simp[intOf];omega
  ·have HE3:Hid (zH (L.map zQ.name) nm = -1):=by have:=HE.out;rw[pm (by simp;omega)]at this;exact this.symm
   clear HE;go_wp2_with fail
   go_ret
   exact⟨yP HE3.out.symm,HB.out⟩
def zEB(x:Bs × Nat):List Value:=[.string ⟨x.1.toArray⟩,.int .i64 (x.2:Nat)]
theorem Co(w:World)(b o:Nat)(ia:Option Addr)(ic:Nat)(L:List (Bs × Nat))(nm:Bs)(hm:w.cell? ⟨b,o+1,none⟩=some (.slice ia L.length ic))(hc:tZ w ia (L.flatMap zEB))(hf:L.length<=10000) :
 Calls Tryz.prog 137 #[.pointer (some ⟨b,o,none⟩),.string ⟨nm.toArray⟩] w fun e w'=>e=.returned (.int .i64 (zH (L.map Prod.fst) nm))/\Below w.heap.size w w':=by
 have HC:=zA hc;clear hc
 go_enter Tryz.func137,Tryz.ntmps137
 go_wp2_with fail
 go_loopw [12] (fun iv wr=>∃(i:Nat),i<=L.length/\iv=.int .i64 i/\Hid (Below w.heap.size w wr)/\Hid (qK nm ((L.map Prod.fst).drop i) i=zH (L.map Prod.fst) nm)) (fun iv _=>L.length-(intOf iv).toNat)
 case atStart=>exact⟨0,p7 _,rfl,zA (tg _ _),zA rfl⟩
 case round =>
  obtain⟨i,hi,rfl,HB,HE⟩:=hrel;have zL8:=HB.out.size;by_cases zKZ:i<L.length
  ·have hcr:=HC.out.below HB.out
   obtain⟨g,rfl,q0⟩:=hcr.at ((zN zEB 2 (fun _=>rfl) ([],0) L i 0 zKZ (by decide)).trans rfl);have q1:=(hcr.at ((zN zEB 2 (fun _=>rfl) ([],0) L i 1 zKZ (by decide)).trans rfl)).elim fun g' h=>(show g=g' by simpa using h.1) ▸ h.2;rw[l9]at q0;have hE:=HE.out;rw[aZ nm (L.map Prod.fst) i (by simpa using zKZ)]at hE;have zLA:(L.map Prod.fst).getD i []=Prod.fst (L.getD i ([],0)):=by simp[List.getD,zKZ]
   rw[zLA]at hE;have HE2:=zA hE;have lg:=yQ q0;have mg:wr.heap.size≠g:=by omega
   clear HE hE hcr zLA;generalize L.getD i ([],0)=x at *;obtain⟨x0,x1⟩:=x;simp only at q0 q1 HE2;by_cases k1:x0=nm
   ·have HE3:Hid (zH (L.map Prod.fst) nm=i):=by have:=HE2.out;rw[tl k1]at this;exact this.symm
    have b1:(x0==nm)=true:=by simpa using k1
    clear HE2 k1;go_wp2_with fail
    go_ret
    exact⟨yP HE3.out.symm,HB.out.alloc zL8 _⟩
   ·have HE3:Hid (qK nm ((L.map Prod.fst).drop (i+1)) (i+1)=zH (L.map Prod.fst) nm):=by have:=HE2.out;rw[tb k1]at this;exact this
    have b1:(x0==nm)=false:=by simpa using k1
    clear HE2 k1;go_wp2_with fail
    go_roundw
    case rel=>exact⟨i+1,by omega,by go_num,zA (HB.out.alloc zL8 _),HE3⟩
    case measure=>simp[intOf];omega
  ·have HE3:Hid (zH (L.map Prod.fst) nm = -1):=by have:=HE.out;rw[pm (by simp;omega)]at this;exact this.symm
   clear HE;go_wp2_with fail
   go_ret
   exact⟨yP HE3.out.symm,HB.out⟩
end Go.Proofs.YtnbpdffdnphbeabGreatDoor
