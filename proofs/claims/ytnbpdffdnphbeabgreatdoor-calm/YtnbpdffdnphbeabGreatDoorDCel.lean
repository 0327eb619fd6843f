import Derived.Test.YtnbpdffdnphbeabGreatDoorRgLinks
import Derived.Laws.IdiomStrings
set_option maxHeartbeats 2000000
set_option maxRecDepth 100000
namespace Go.Proofs.YtnbpdffdnphbeabGreatDoor
open Go.RowKit
variable{xs:List Value}{B b n:Nat}{a:Option Addr}{t:TypeId}{rv cv iv v:Value}{w w':World}(ls:List zE)(G:List Bool)
def kS(w:World)(a:Option Addr)(xs:List Value):Prop:=xs=[]\/∃g,a=some ⟨g,0,none⟩/\∀j,j<xs.length->w.cell? ⟨g,j,none⟩=xs[j]?
theorem kS.below(h:kS w a xs)(hb:Below w.heap.size w w'):kS w' a xs:=by
 rcases h with h|⟨g,h1,h2⟩
 ·exact .inl h
 ·refine .inr ⟨g,h1,fun j hj=>?_⟩
  have h3:=h2 j hj;rw[p9 hj]at h3;rw[hb.cell (p:=⟨g,j,none⟩) (yF h3),h3,p9 hj]
theorem kS.at(h:kS w a xs){j:Nat}(hj:xs[j]? = some v):∃g,a=some ⟨g,0,none⟩/\w.cell? ⟨g,j,none⟩=some v:=by
 rcases h with h|⟨g,h1,h2⟩
 ·rw[h]at hj;simp at hj
 ·exact⟨g,h1,(h2 j (List.getElem?_eq_some_iff.1 hj).1).trans hj⟩
theorem gL{k:Nat}(h:w.ownsRow B t k v n xs):∃a c,v=.slice a n c/\kS w a xs/\n<=c/\c<=maxLen:=by
 have hl:=h.1;rcases h.2 with ⟨h1,h2⟩|⟨g,cap,yM,h1,_,h3,h4,h5,_,h7⟩
 ·refine⟨none,0,by rw[h1,h2],.inl (lj (by rw[hl,h2,Nat.zero_mul])),by omega,ty _⟩
 ·exact⟨some ⟨g,0,none⟩,cap,h1,.inr ⟨g,rfl,fun j hj=>by
   have:=p9 hj;rw[this];exact xM h3 (n:=n*k) h7 this⟩,h4,h5⟩
theorem zN{α:Type}(f:α->List Value)(k:Nat)(hf:∀x,(f x).length=k)(d:α)(L:List α):∀i r,i<L.length->r<k->(L.flatMap f)[i*k+r]? = (f (L.getD i d))[r]? := by
 induction L with
 | nil=>intro i r h;simp at h
 | cons x L ih =>
   intro i r hi hr;rw[bf]
   cases i with
   | zero=>rw[Nat.zero_mul,cq,mt (by rw[hf];exact hr)];rfl
   | succ i =>
     rw[ld (by rw[hf];rw[Nat.succ_mul];omega),hf,show (i+1)*k+r-k=i*k+r by rw[Nat.succ_mul];omega,ih i r (by simpa using hi) hr];rfl
theorem iO{α:Type}(f:α->List Value)(k:Nat)(hf:∀x,(f x).length=k)(L:List α):(L.flatMap f).length=L.length*k:=by
 induction L with
 | nil=>simp
 | cons x L ih=>rw[bf,tl,hf,ih,pd,Nat.succ_mul,Nat.add_comm]
def xG(w:World)(t:TypeId)(a:Option Addr)(xs:List Value):Prop:=xs=[]\/∃g cs fz,a=some ⟨g,0,none⟩/\w.heap[g]? = some (.cells cs t fz)/\∀j,j<xs.length->cs[j]? = xs[j]?
theorem xG.cel(h:xG w t a xs):kS w a xs:=by
 rcases h with h|⟨g,cs,fz,h1,h2,h3⟩
 ·exact .inl h
 ·exact .inr ⟨g,h1,fun j hj=>(zB h2 j).trans (h3 j hj)⟩
theorem vO{k:Nat}(h:w.ownsRow B t k v n xs):∃a c,v=.slice a n c/\xG w t a xs:=by
 have hl:=h.1;rcases h.2 with ⟨h1,h2⟩|⟨g,cap,yM,h1,_,h3,h4,h5,_,h7⟩
 ·exact⟨none,0,by rw[h1,h2],.inl (lj (by rw[hl,h2,Nat.zero_mul]))⟩
 ·exact⟨some ⟨g,0,none⟩,cap,h1,.inr ⟨g,yM,_,rfl,h3,fun j hj=>by
   rw[<-h7,List.getElem?_take,tm (by rw[<-hl];exact hj),dt]⟩⟩
theorem xG.keep(h:xG w t a xs)(hk:∀(g:Nat) (cs:Array Value) (fz:Nat × Nat),w.heap[g]? = some (Obj.cells cs t fz)->w'.heap[g]? = w.heap[g]?):xG w' t a xs:=by
 rcases h with h|⟨g,cs,fz,h1,h2,h3⟩
 ·exact .inl h
 ·exact .inr ⟨g,cs,fz,h1,by rw[hk g cs fz h2];exact h2,h3⟩
theorem xG.below(h:xG w t a xs)(hb:Below w.heap.size w w'):xG w' t a xs :=
 h.keep fun g _ _ hg=>hb.block g (zL hg)
theorem xG.grown{e:TypeId}{k:Nat}{ys:List Value}(h:xG w t a xs)(zK6:w.ownsRow B e k v n ys)(zK8:t≠e)(hg:w.grownBy w' v.ownBlock):xG w' t a xs :=
 h.keep fun g cs fz hgg=>hg.block g (zL hgg) (fun e1=>by
  rcases zK6.2 with ⟨k1,_⟩|⟨g',cap,yM,k1,_,k3,_⟩
  ·rw[k1]at e1;simp[Value.ownBlock]at e1
  ·rw[k1]at e1;simp[Value.ownBlock]at e1
   subst e1;rw[hgg]at k3;simp only[ly,Obj.cells.injEq]at k3;exact zK8 k3.2.1)
theorem xG.set(h:xG w t a xs){j:Nat}{u:Value}{cs:Array Value}{t':TypeId}{fz:Nat × Nat}(hb:w.heap[b]? = some (.cells cs t' fz))(zK8:t≠t'):xG (w.setCell ⟨b,j,none⟩ u) t a xs :=
 h.keep fun g cs' fz' hg=>lk _ _ _ _ (fun e=>by
  subst e;rw[hb]at hg;simp only[ly,Obj.cells.injEq]at hg;exact zK8 hg.2.1.symm)
theorem yW(w:World)(o:Obj)(H:Nat)(hH:w.heap.size=H):(w.alloc o).heap[H]? = some o:=by subst hH;exact zG _ _
structure qV where
 kind:Int
 left:Int
 right:Int
 place:Int
 two:Bool
 other:Int
 num:Int
 less:Bool
 equal:Bool
 more:Bool
def qL(x:qV):List Value:=[.int .i64 x.kind,.int .i64 x.left,.int .i64 x.right,.int .i64 x.place,.bool x.two,.int .i64 x.other,.int .i64 x.num,.bool x.less,.bool x.equal,.bool x.more]
def gP(x:qV):Value:=.agg #[.int .i64 x.kind,.int .i64 x.left,.int .i64 x.right,.int .i64 x.place,.bool x.two,.int .i64 x.other,.int .i64 x.num,.bool x.less,.bool x.equal,.bool x.more]
structure lX where
 kind:Int
 num:Int
 place:Int
def tY(x:lX):List Value:=[.int .i64 x.kind,.int .i64 x.num,.int .i64 x.place]
def Bq:lX:=⟨0,0,0⟩
def oN:qV:=⟨0,0,0,0,false,0,0,false,false,false⟩
structure xO where
 label:Bs
 conc:Int
 sum:List lX
 guard:List qV
 root:Int
abbrev MX:=xO × Value × Value
def uE(x:MX):Value:=.agg #[.string ⟨x.1.label.toArray⟩,.int .i64 x.1.conc,x.2.1,x.2.2,.int .i64 x.1.root]
def jN(x:MX):List Value:=[.string ⟨x.1.label.toArray⟩,.int .i64 x.1.conc,x.2.1,x.2.2,.int .i64 x.1.root]
structure uL(w:World)(x:MX):Prop where
 sum:∃a c,x.2.1=.slice a x.1.sum.length c/\xG w 260 a (x.1.sum.flatMap tY)
 guard:∃a c,x.2.2=.slice a x.1.guard.length c/\xG w 263 a (x.1.guard.flatMap qL)
 few1:x.1.sum.length<=10000
 few2:x.1.guard.length<=10000
theorem uL.below{x:MX}(h:uL w x)(hb:Below w.heap.size w w'):uL w' x:=by
 obtain⟨a,c,h1,h2⟩:=h.sum;obtain⟨a',c',h3,h4⟩:=h.guard;exact⟨⟨a,c,h1,h2.below hb⟩,⟨a',c',h3,h4.below hb⟩,h.few1,h.few2⟩
structure zP where
 name:Bs
 isFlag:Bool
 low:Int
 high:Int
def ZD(x:zP):Value:=.agg #[.string ⟨x.name.toArray⟩,.bool x.isFlag,.int .i64 x.low,.int .i64 x.high]
def uI(x:zP):List Value:=[.string ⟨x.name.toArray⟩,.bool x.isFlag,.int .i64 x.low,.int .i64 x.high]
def eX:zP:=⟨[],false,0,0⟩
def mC(x:zE):zP:=if x.kind=1 then ⟨x.name,false,x.low,x.high⟩ else ⟨x.name,true,0,0⟩
def cR:List zE->List zP->List zP
 | [],acc=>acc
 | x::r,acc=>cR r (if x.kind=1\/x.kind=2 then acc++[mC x] else acc)
def zR(ls:List zE):List zP:=cR ls []
def uC(ls:List zE):List Bs:=(zR ls).map zP.name
theorem BA(i:Nat)(acc:List zP)(h:i<ls.length):cR (ls.drop i) acc=cR (ls.drop (i+1)) (if (lA ls i).kind=1\/(lA ls i).kind=2 then acc++[mC (lA ls i)] else acc):=by
 rw[pm h,cR];simp[lA,List.getD,h]
def Bo(ins:List Bs)(x:xE):Int:=if x.name=[] then 1 else if zI ins x.name<0 then 3 else 2
def zFI(ins cs:List Bs)(x:xE):Int:=if x.name=[] then 0 else if zI ins x.name<0 then zI cs x.name else zI ins x.name
def GK(x:xE):Int:=if x.name=[] then x.num else if x.starred then x.num else 1
def uB(ins cs:List Bs)(x:xE):lX:=⟨Bo ins x,if x.minus then -GK x else GK x,zFI ins cs x⟩
def Us(ins cs:List Bs)(x:zT):Int:=if x.kind=5 then zI cs x.name else if x.kind=6\/x.kind=7 then zI ins x.name else 0
def zFJ(ins:List Bs)(x:zT):Int:=if x.other=[] then 0 else zI ins x.other
def Da(m:Bs):Bool:=decide (m=[60]\/m=[60,61]\/m=[33,61])
def JC(m:Bs):Bool:=decide (m=[60,61]\/m=[61]\/m=[62,61])
def CZ(m:Bs):Bool:=decide (m=[62]\/m=[62,61]\/m=[33,61])
def pZ(ins cs:List Bs)(x:zT):qV:=⟨x.kind,x.left,x.right,Us ins cs x,decide (x.other≠[]),zFJ ins x,x.num,Da x.mark,JC x.mark,CZ x.mark⟩
def uX(ins cs:List Bs)(x:zE):xO:=⟨x.name,zI cs x.conc,x.sum.map (uB ins cs),x.nd.map (pZ ins cs),x.root⟩
def dS(ins cs:List Bs):List zE->List xO->List xO
 | [],acc=>acc
 | x::r,acc=>dS ins cs r (if x.kind=3 then acc++[uX ins cs x] else acc)
def uD(ins cs:List Bs)(ls:List zE):List xO:=dS ins cs ls []
theorem KI(ins cs:List Bs)(ls:List zE)(i:Nat)(acc:List xO)(h:i<ls.length):dS ins cs (ls.drop i) acc=dS ins cs (ls.drop (i+1)) (if (lA ls i).kind=3 then acc++[uX ins cs (lA ls i)] else acc):=by
 rw[pm h,dS];simp[lA,List.getD,h]
theorem Fd(ins cs:List Bs)(ls:List zE):∀acc,dS ins cs ls acc=acc++(ls.filter fun x=>decide (x.kind=3)).map (uX ins cs):=by
 induction ls with
 | nil=>intro acc;simp[dS]
 | cons x r ih=>intro acc;rw[dS,ih];by_cases h:x.kind=3 <;> simp[h]
theorem Xl:∀acc,cR ls acc=acc++(ls.filter fun x=>decide (x.kind=1\/x.kind=2)).map mC:=by
 induction ls with
 | nil=>intro acc;simp[cR]
 | cons x r ih=>intro acc;rw[cR,ih];by_cases h:x.kind=1\/x.kind=2 <;> simp[h]
theorem aQ(x:zE):(mC x).name=x.name:=by unfold mC;split <;> rfl
theorem oU:uC ls=(ls.filter fun x=>decide (x.kind=1\/x.kind=2)).map zE.name:=by
 unfold uC zR;rw[Xl,di,List.map_map];congr 1;funext x;exact aQ x
theorem zAW(w:World)(a:Option Addr)(c:Nat)(ls:List LX)(h:jU w a ls) :
 Calls Tryz.prog 90 #[.slice a ls.length c] w fun e w'=>e=.returned (.agg (gC (zS (uT (xW (fs ls)) (fs ls) gZ))))/\Below w.heap.size w w':=by
 have HO:=zA (fun o=>D7 (w.alloc o) a c ls (h.below (fj (j1 _) o) (j1 _)));have zKS:Hid ((uT (xW (fs ls)) (fs ls) gZ).length=64):=by unfold Hid;rw[pT];exact yY
 clear h;generalize uT (xW (fs ls)) (fs ls) gZ=Go at *;have HCL:Hid ((zS Go).length=64):=by unfold Hid zS;rw[dR];exact zKS.out
 have HCh:=zA (fun w' g (hg:eJ w' g Go)=>VS w' g Go hg);generalize zS Go=Gc at *
 go_enter Tryz.func90,Tryz.ntmps90
 go_wp2_with fail
 refine(HO.out _).mono ?_;rintro e w1 ⟨rfl,hb1⟩;have hz1:w1.heap[w.heap.size]? = some (.cells (gC gZ) 125 (0,0)):=by rw[hb1.block _ (zY _ _)];exact zG _ _
 have hs1:=tj (zY w _) hb1.size;have HB1:Hid (Below w.heap.size w w1):=(fj (j1 _) _).trans (hb1.mono (ph (zY _ _)));have HZ1:=zA hz1;clear hb1 hz1 HO
 go_wp2_with (refine wpList_store_row ?zK9 125 (.tmp 3) (.tmp 5) ?ho w1.heap.size (gC Go) ?hx ?hy 125 (gC gZ) (zG w1 _) (kQ zKS.out) ?zKC (tO Go) ?_
              case ho=>rfl
              case zK9=>rfl
              case hx=>rfl
              case hy=>rfl
              case zKC=>rw[xR,xR,yY,zKS.out])
 refine(HCh.out _ w1.heap.size ⟨bi _ _ (gC gZ) _ _ _ (zG w1 _),zKS.out⟩).mono ?_;rintro e w2 ⟨rfl,hb2⟩;have HBm:Hid (Below w.heap.size w ((w1.alloc (.cells (gC gZ) 125 (0,0))).setRow w1.heap.size (gC Go))):=yT (HB1.out.alloc (ph hs1) _) (ph hs1) _;have zKD:((w1.alloc (.cells (gC gZ) 125 (0,0))).setRow w1.heap.size (gC Go)).heap.size=w1.heap.size+1:=by unfold World.setRow;simp
 have HB2:Hid (Below w.heap.size w w2):=HBm.out.trans (hb2.mono (by rw[zKD];omega))
 have HZ2:Hid (w2.heap[w.heap.size]? = some (.cells (gC gZ) 125 (0,0))):=by
  unfold Hid;rw[hb2.block _ (by rw[zKD];omega),setRow_other _ _ _ _ (by omega)];exact zU HZ1.out
 clear hb2 HBm zKD HCh
 go_wp2_with (refine wpList_store_row ?zK9 125 (.tmp 2) (.tmp 6) ?ho w.heap.size (gC Gc) ?hx ?hy 125 (gC gZ) HZ2.out (kQ HCL.out) ?zKC (tO Gc) ?_
              case ho=>rfl
              case zK9=>rfl
              case hx=>rfl
              case hy=>rfl
              case zKC=>rw[xR,xR,yY,HCL.out])
 refine pb (v:=.agg (gC Gc)) (results_cell_row Tryz.results90 _ _ w.heap.size 125 (gC Gc) (0,0) _ rfl (bi _ _ (gC gZ) _ _ _ HZ2.out) Tryz.underlying125 rfl (kQ HCL.out)) rfl ⟨rfl,yT HB2.out (j1 _) _⟩
theorem Cd(w:World)(s:Bs):∃wc cap,(convert 9 118 (.string ⟨s.toArray⟩)).run Tryz.prog w=.ok (.slice (some ⟨w.heap.size,0,none⟩) s.length cap) wc/\(convert 118 9 (.slice (some ⟨w.heap.size,0,none⟩) s.length cap)).run Tryz.prog wc=.ok (.string ⟨s.toArray⟩) wc/\Below w.heap.size w wc:=by
 have h1:=run_bytes_of_string (P:=Tryz.prog) w 9 118 5 ⟨s.toArray⟩ Tryz.underlying9 Tryz.underlying118 Tryz.underlying5;have zKD:(⟨s.toArray⟩:ByteArray).size=s.length:=by simp[ByteArray.size]
 rw[zKD]at h1;generalize grownCap w s.length 0 5=cap at h1;refine⟨_,cap,h1,?_,?_⟩
 ·refine run_convert_bytes_back (P:=Tryz.prog) _ 118 9 5 ⟨w.heap.size,0,none⟩ cap s Tryz.underlying118 Tryz.underlying5 Tryz.underlying9 (fun j hj=>?_)
  have h2:=zB (zG w.drew (.cells (bytesRow ⟨s.toArray⟩ cap) 5 ((bytesRow ⟨s.toArray⟩ cap).size,(bytesRow ⟨s.toArray⟩ cap).size+1))) j
  have h3:(bytesRow ⟨s.toArray⟩ cap)[j]? = some (.int .u8 (s[j].toNat:Int)):=by
   unfold bytesRow;rw[dj (by simpa using hj)];simp[hj]
  rw[h3]at h2;have e:(⟨w.heap.size,0,none⟩:Addr).add j=⟨w.heap.size,j,none⟩:=by simp[Addr.add];omega
  rw[e];exact h2
 ·exact(xI (tg w.heap.size w) 1).alloc (j1 _) _
theorem CQ(w:World)(s:Bs):Calls Tryz.prog 92 #[.string ⟨s.toArray⟩] w fun e w'=>e=.returned (.string ⟨s.toArray⟩)/\Below w.heap.size w w':=by
 obtain⟨wc,cap,kc1,kc2,hbc⟩:=Cd w s;have HB:=zA hbc;clear hbc
 go_enter Tryz.func92,Tryz.ntmps92
 go_wp2_with fail
 go_ret
 exact⟨rfl,HB.out⟩
theorem uq:(yR ls).length<=(zO ls).length:=by
 have key:∀(S:List Nat) (hd:List Bs) (i:Nat) (acc:List (Bs × Nat)),(sK S hd i acc).length<=acc.length+hd.length:=by
  intro S hd
  induction hd with
  | nil=>intro i acc;simp[sK]
  | cons n r ih=>intro i acc;rw[sK];have:=ih (i+1) (if i<8 then acc++[(n,S.getD i 0)] else acc);split at this <;> simp at this ⊢ <;> split <;> omega
 have:=key (tD (qK (zO ls) ls gZ)) (zO ls) 0 [];unfold yR;simpa using this
theorem BB:(zO ls).length<=ls.length:=by
 have key:∀(ls:List zE) (acc:List Bs),(uM ls acc).length<=acc.length+ls.length:=by
  intro ls
  induction ls with
  | nil=>intro acc;simp[uM]
  | cons x r ih=>intro acc;rw[uM];have:=ih (if x.kind=3/\zI acc x.conc<0 then acc++[x.conc] else acc);split at this <;> simp at this ⊢ <;> split <;> omega
 have:=key ls [];unfold zO;simpa using this
def bP(iv cv rv:Value)(G:List Bool):Array Value := #[iv,cv,rv]++gC G
def bO(iv cv rv:Value)(G:List Bool):Obj:=.cells (bP iv cv rv G) 127 (0,0)
theorem mA(iv cv rv:Value)(G:List Bool):(bP iv cv rv G).size=3+G.length:=by unfold bP;rw[Array.size_append,xR];rfl
theorem YZ(iv cv rv:Value)(G:List Bool)(k:Nat)(hk:k<G.length):(bP iv cv rv G)[3+k]? = some (.bool (G.getD k false)):=by
 unfold bP gC;rw[dl (by simp)];simp[List.getD,hk]
theorem JB(iv cv rv:Value)(G:List Bool):(bP iv cv rv G)[0]? = some iv/\(bP iv cv rv G)[1]? = some cv/\(bP iv cv rv G)[2]? = some rv:=by
 unfold bP;refine⟨?_,?_,?_⟩ <;> rw[dj (by simp)] <;> rfl
theorem tW{G:List Bool}(h:w.heap[b]? = some (bO iv cv rv G)):w.cell? ⟨b,0,none⟩=some iv/\w.cell? ⟨b,1,none⟩=some cv/\w.cell? ⟨b,2,none⟩=some rv/\(∀k,k<G.length->w.cell? ⟨b,3+k,none⟩=some (.bool (G.getD k false)))/\∀j,w.frozen? ⟨b,j,none⟩=false:=by
 unfold bO at h;obtain⟨h0,h1,h2⟩:=JB iv cv rv G;exact⟨(zB h 0).trans h0,(zB h 1).trans h1,(zB h 2).trans h2,fun k hk=>(zB h _).trans (YZ iv cv rv G k hk),fun j=>by simp[World.frozen?,h]⟩
theorem CY{G:List Bool}(h:w.heap[b]? = some (bO iv cv rv G)):(w.setCell ⟨b,0,none⟩ v).heap[b]? = some (bO v cv rv G):=by
 unfold bO at h ⊢;rw[tr w b 0 _ _ _ h];congr 2;unfold bP;rw[Array.setIfInBounds_append,tm (by simp)];rfl
theorem zD8{G:List Bool}(h:w.heap[b]? = some (bO iv cv rv G)):(w.setCell ⟨b,1,none⟩ v).heap[b]? = some (bO iv v rv G):=by
 unfold bO at h ⊢;rw[tr w b 1 _ _ _ h];congr 2;unfold bP;rw[Array.setIfInBounds_append,tm (by simp)];rfl
theorem zD7{G:List Bool}(h:w.heap[b]? = some (bO iv cv rv G)):(w.setCell ⟨b,2,none⟩ v).heap[b]? = some (bO iv cv v G):=by
 unfold bO at h ⊢;rw[tr w b 2 _ _ _ h];congr 2;unfold bP;rw[Array.setIfInBounds_append,tm (by simp)];rfl
theorem J2(h:G.length=64):G=(List.range 64).map (fun i=>G.getD i false):=by
 apply List.ext_getElem?
 intro i;by_cases hi:i<64
 ·simp[hi,List.getD,h]
 ·rw[List.getElem?_eq_none (by omega),List.getElem?_eq_none (by simp;omega)]
theorem F8(h:G.length=64):Tryz.prog.built 127 [(3,.agg (gC G))]=some (bP (.slice none 0 0) (.slice none 0 0) (.slice none 0 0) G):=by
 have key:∀b:Nat->Bool,Tryz.prog.built 127 [(3,.agg (gC ((List.range 64).map b)))]=some (bP (.slice none 0 0) (.slice none 0 0) (.slice none 0 0) ((List.range 64).map b)):=fun b=>by kernel_rfl
 rw[J2 G h];exact key _
theorem zE3:∀v∈gC G,v.oneCell'=true:=by
 intro v hv;have:=Array.all_eq_true_iff_forall_mem.1 (tO G) v hv;exact this
theorem JA(h0:iv.oneCell'=true)(h1:cv.oneCell'=true)(h2:rv.oneCell'=true)(G:List Bool):(bP iv cv rv G).all (·.oneCell')=true:=by
 rw[Array.all_eq_true_iff_forall_mem];intro v hv;unfold bP at hv;rcases Array.mem_append.1 hv with h|h
 ·simp at h;rcases h with rfl|rfl|rfl <;> assumption
 ·exact zE3 G v h
theorem rZ{G:List Bool}(h:G.length=64)(iv cv rv:Value):(Tryz.prog.info? 127).map (·.size)=some (bP iv cv rv G).size:=by rw[mA,h];kernel_rfl
theorem Vi:Tryz.zeroCells127=bP (.slice none 0 0) (.slice none 0 0) (.slice none 0 0) gZ:=by kernel_rfl
theorem ut(L:List (Bs × Nat))(i:Nat)(h:i<L.length):wZ (L.take (i+1))=wZ (L.take i)++[.string ⟨(L.getD i ([],0)).1.toArray⟩,.int .i64 ((L.getD i ([],0)).2:Nat)]:=by
 have:L.take (i+1)=L.take i++[L.getD i ([],0)]:=by rw[cw];simp[List.getD,h]
 rw[this,Vl]
theorem eT(w:World)(B:Nat)(t:TypeId)(k:Nat):w.ownsRow B t k (.slice none 0 0) 0 []:=⟨by simp,.inl ⟨rfl,rfl⟩⟩
theorem ZO(w:World)(b o:Nat)(ia:Option Addr)(ic:Nat)(L:List zP)(nm:Bs)(hm:w.cell? ⟨b,o,none⟩=some (.slice ia L.length ic))(hc:kS w ia (L.flatMap uI))(hf:L.length<=10000) :
 Calls Tryz.prog 86 #[.pointer (some ⟨b,o,none⟩),.string ⟨nm.toArray⟩] w fun e w'=>e=.returned (.int .i64 (zI (L.map zP.name) nm))/\Below w.heap.size w w':=by
 have HC:=zA hc;clear hc
 go_enter Tryz.func86,Tryz.ntmps86
 go_wp2_with fail
 go_loopw [12] (fun iv wr=>∃(i:Nat),i<=L.length/\iv=.int .i64 i/\Hid (Below w.heap.size w wr)/\Hid (qI nm ((L.map zP.name).drop i) i=zI (L.map zP.name) nm)) (fun iv _=>L.length-(intOf iv).toNat)
 case atStart=>exact⟨0,ty _,rfl,zA (tg _ _),zA rfl⟩
 case round =>
  obtain⟨i,hi,rfl,HB,HE⟩:=hrel;have zKD:=HB.out.size;by_cases zK4:i<L.length
  ·have hcr:=HC.out.below HB.out
   obtain⟨g,rfl,q0⟩:=hcr.at ((zN uI 4 (fun _=>rfl) eX L i 0 zK4 (by decide)).trans rfl);have q1:=(hcr.at ((zN uI 4 (fun _=>rfl) eX L i 1 zK4 (by decide)).trans rfl)).elim fun g' h=>(show g=g' by simpa using h.1) ▸ h.2;have q2:=(hcr.at ((zN uI 4 (fun _=>rfl) eX L i 2 zK4 (by decide)).trans rfl)).elim fun g' h=>(show g=g' by simpa using h.1) ▸ h.2;have q3:=(hcr.at ((zN uI 4 (fun _=>rfl) eX L i 3 zK4 (by decide)).trans rfl)).elim fun g' h=>(show g=g' by simpa using h.1) ▸ h.2;rw[l6]at q0;have hE:=HE.out;rw[aT nm (L.map zP.name) i (by simpa using zK4)]at hE;have zK9:(L.map zP.name).getD i []=zP.name (L.getD i eX):=by simp[List.getD,zK4]
   rw[zK9]at hE;have HE2:=zA hE;have lg:=yF q0;have mg:wr.heap.size≠g:=by omega
   clear HE hE hcr zK9;generalize L.getD i eX=x at *;obtain⟨x0,x1,x2,x3⟩:=x;simp only at q0 q1 q2 q3 HE2;by_cases k1:x0=nm
   ·have HE3:Hid (zI (L.map zP.name) nm=i):=by have:=HE2.out;rw[tm k1]at this;exact this.symm
    have b1:(x0==nm)=true:=by simpa using k1
    clear HE2 k1;go_wp2_with fail
    go_ret
    exact⟨yQ HE3.out.symm,HB.out.alloc zKD _⟩
   ·have HE3:Hid (qI nm ((L.map zP.name).drop (i+1)) (i+1)=zI (L.map zP.name) nm):=by have:=HE2.out;rw[tb k1]at this;exact this
    have b1:(x0==nm)=false:=by simpa using k1
    clear HE2 k1;go_wp2_with fail
    go_roundw
    case rel=>exact⟨i+1,by omega,by go_num,zA (HB.out.alloc zKD _),HE3⟩
    case measure=>simp[intOf];omega
  ·have HE3:Hid (zI (L.map zP.name) nm = -1):=by have:=HE.out;rw[pf (by simp;omega)]at this;exact this.symm
   clear HE;go_wp2_with fail
   go_ret
   exact⟨yQ HE3.out.symm,HB.out⟩
def zDC(x:Bs × Nat):List Value:=[.string ⟨x.1.toArray⟩,.int .i64 (x.2:Nat)]
theorem BX(w:World)(b o:Nat)(ia:Option Addr)(ic:Nat)(L:List (Bs × Nat))(nm:Bs)(hm:w.cell? ⟨b,o+1,none⟩=some (.slice ia L.length ic))(hc:kS w ia (L.flatMap zDC))(hf:L.length<=10000) :
 Calls Tryz.prog 137 #[.pointer (some ⟨b,o,none⟩),.string ⟨nm.toArray⟩] w fun e w'=>e=.returned (.int .i64 (zI (L.map Prod.fst) nm))/\Below w.heap.size w w':=by
 have HC:=zA hc;clear hc
 go_enter Tryz.func137,Tryz.ntmps137
 go_wp2_with fail
 go_loopw [12] (fun iv wr=>∃(i:Nat),i<=L.length/\iv=.int .i64 i/\Hid (Below w.heap.size w wr)/\Hid (qI nm ((L.map Prod.fst).drop i) i=zI (L.map Prod.fst) nm)) (fun iv _=>L.length-(intOf iv).toNat)
 case atStart=>exact⟨0,ty _,rfl,zA (tg _ _),zA rfl⟩
 case round =>
  obtain⟨i,hi,rfl,HB,HE⟩:=hrel;have zKD:=HB.out.size;by_cases zK4:i<L.length
  ·have hcr:=HC.out.below HB.out
   obtain⟨g,rfl,q0⟩:=hcr.at ((zN zDC 2 (fun _=>rfl) ([],0) L i 0 zK4 (by decide)).trans rfl);have q1:=(hcr.at ((zN zDC 2 (fun _=>rfl) ([],0) L i 1 zK4 (by decide)).trans rfl)).elim fun g' h=>(show g=g' by simpa using h.1) ▸ h.2;rw[l6]at q0;have hE:=HE.out;rw[aT nm (L.map Prod.fst) i (by simpa using zK4)]at hE;have zK9:(L.map Prod.fst).getD i []=Prod.fst (L.getD i ([],0)):=by simp[List.getD,zK4]
   rw[zK9]at hE;have HE2:=zA hE;have lg:=yF q0;have mg:wr.heap.size≠g:=by omega
   clear HE hE hcr zK9;generalize L.getD i ([],0)=x at *;obtain⟨x0,x1⟩:=x;simp only at q0 q1 HE2;by_cases k1:x0=nm
   ·have HE3:Hid (zI (L.map Prod.fst) nm=i):=by have:=HE2.out;rw[tm k1]at this;exact this.symm
    have b1:(x0==nm)=true:=by simpa using k1
    clear HE2 k1;go_wp2_with fail
    go_ret
    exact⟨yQ HE3.out.symm,HB.out.alloc zKD _⟩
   ·have HE3:Hid (qI nm ((L.map Prod.fst).drop (i+1)) (i+1)=zI (L.map Prod.fst) nm):=by have:=HE2.out;rw[tb k1]at this;exact this
    have b1:(x0==nm)=false:=by simpa using k1
    clear HE2 k1;go_wp2_with fail
    go_roundw
    case rel=>exact⟨i+1,by omega,by go_num,zA (HB.out.alloc zKD _),HE3⟩
    case measure=>simp[intOf];omega
  ·have HE3:Hid (zI (L.map Prod.fst) nm = -1):=by have:=HE.out;rw[pf (by simp;omega)]at this;exact this.symm
   clear HE;go_wp2_with fail
   go_ret
   exact⟨yQ HE3.out.symm,HB.out⟩
end Go.Proofs.YtnbpdffdnphbeabGreatDoor
