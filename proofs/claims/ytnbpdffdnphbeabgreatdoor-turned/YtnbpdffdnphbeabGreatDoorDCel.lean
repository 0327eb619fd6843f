import Derived.Test.YtnbpdffdnphbeabGreatDoorRgLinks
import Derived.Laws.IdiomStrings
set_option maxHeartbeats 2000000
set_option maxRecDepth 100000
namespace Go.Proofs.YtnbpdffdnphbeabGreatDoor
open Go.RowKit
variable{xs:List Value}{B b:Nat}{a:Option Addr}{t:TypeId}{iv rv v cv:Value}{w' w:World}(ls:List zE)(G:List Bool)
def jR(w:World)(a:Option Addr)(xs:List Value):Prop:=xs=[]\/∃g,a=some ⟨g,0,none⟩/\∀j,j<xs.length->w.cell? ⟨g,j,none⟩=xs[j]?
theorem jR.below(h:jR w a xs)(hb:Below w.heap.size w w'):jR w' a xs:=by
 rcases h with h|⟨g,h1,h2⟩
 ·exact .inl h
 ·refine .inr ⟨g,h1,fun j hj=>?_⟩
  have h3:=h2 j hj;rw[pb hj]at h3;rw[hb.cell (p:=⟨g,j,none⟩) (yR h3),h3,pb hj]
theorem jR.at(h:jR w a xs){j:Nat}(hj:xs[j]? = some v):∃g,a=some ⟨g,0,none⟩/\w.cell? ⟨g,j,none⟩=some v:=by
 rcases h with h|⟨g,h1,h2⟩
 ·rw[h]at hj;simp at hj
 ·exact⟨g,h1,(h2 j (List.getElem?_eq_some_iff.1 hj).1).trans hj⟩
theorem nH{k n:Nat}(h:w.ownsRow B t k v n xs):∃a c,v=.slice a n c/\jR w a xs/\n<=c/\c<=maxLen:=by
 have hl:=h.1;rcases h.2 with ⟨h1,h2⟩|⟨g,cap,yL,h1,_,h3,h4,h5,_,h7⟩
 ·refine⟨none,0,by rw[h1,h2],.inl (l9 (by rw[hl,h2,fm])),by omega,tx _⟩
 ·exact⟨some ⟨g,0,none⟩,cap,h1,.inr ⟨g,rfl,fun j hj=>by
   have:=pb hj;rw[this];exact xP h3 (n:=n*k) h7 this⟩,h4,h5⟩
theorem zQ{α:Type}(f:α->List Value)(k:Nat)(hf:∀x,(f x).length=k)(d:α)(L:List α):∀i r,i<L.length->r<k->(L.flatMap f)[i*k+r]? = (f (L.getD i d))[r]? := by
 induction L with
 | nil=>intro i r h;simp at h
 | cons x L ih =>
   intro i r hi hr;rw[bi]
   cases i with
   | zero=>rw[fm,cr,mu (by rw[hf];exact hr)];rfl
   | succ i =>
     rw[li (by rw[hf];rw[Nat.succ_mul];omega),hf,show (i+1)*k+r-k=i*k+r by rw[Nat.succ_mul];omega,ih i r (by simpa using hi) hr];rfl
theorem Ze{α:Type}(f:α->List Value)(k:Nat)(hf:∀x,(f x).length=k)(L:List α):(L.flatMap f).length=L.length*k:=by
 induction L with
 | nil=>simp
 | cons x L ih=>rw[bi,tm,hf,ih,p9,Nat.succ_mul,Nat.add_comm]
def xA(w:World)(t:TypeId)(a:Option Addr)(xs:List Value):Prop:=xs=[]\/∃g cs fz,a=some ⟨g,0,none⟩/\w.heap[g]? = some (.cells cs t fz)/\∀j,j<xs.length->cs[j]? = xs[j]?
theorem xA.cel(h:xA w t a xs):jR w a xs:=by
 rcases h with h|⟨g,cs,fz,h1,h2,h3⟩
 ·exact .inl h
 ·exact .inr ⟨g,h1,fun j hj=>(zB h2 j).trans (h3 j hj)⟩
theorem vN{k n:Nat}(h:w.ownsRow B t k v n xs):∃a c,v=.slice a n c/\xA w t a xs:=by
 have hl:=h.1;rcases h.2 with ⟨h1,h2⟩|⟨g,cap,yL,h1,_,h3,h4,h5,_,h7⟩
 ·exact⟨none,0,by rw[h1,h2],.inl (l9 (by rw[hl,h2,fm]))⟩
 ·exact⟨some ⟨g,0,none⟩,cap,h1,.inr ⟨g,yL,_,rfl,h3,fun j hj=>by
   rw[<-h7,du,tl (by rw[<-hl];exact hj),dy]⟩⟩
theorem xA.keep(h:xA w t a xs)(hk:∀(g:Nat) (cs:Array Value) (fz:Nat × Nat),w.heap[g]? = some (Obj.cells cs t fz)->w'.heap[g]? = w.heap[g]?):xA w' t a xs:=by
 rcases h with h|⟨g,cs,fz,h1,h2,h3⟩
 ·exact .inl h
 ·exact .inr ⟨g,cs,fz,h1,by rw[hk g cs fz h2];exact h2,h3⟩
theorem xA.below(h:xA w t a xs)(hb:Below w.heap.size w w'):xA w' t a xs :=
 h.keep fun g _ _ hg=>hb.block g (zM hg)
theorem xA.grown{e:TypeId}{k n:Nat}{ys:List Value}(h:xA w t a xs)(zLM:w.ownsRow B e k v n ys)(zLO:t≠e)(hg:w.grownBy w' v.ownBlock):xA w' t a xs :=
 h.keep fun g cs fz hgg=>hg.block g (zM hgg) (fun e1=>by
  rcases zLM.2 with ⟨k1,_⟩|⟨g',cap,yL,k1,_,k3,_⟩
  ·rw[k1]at e1;simp[Value.ownBlock]at e1
  ·rw[k1]at e1;simp[Value.ownBlock]at e1
   subst e1;rw[hgg]at k3;simp only[lk,Obj.cells.injEq]at k3;exact zLO k3.2.1)
theorem xA.set(h:xA w t a xs){j:Nat}{u:Value}{cs:Array Value}{t':TypeId}{fz:Nat × Nat}(hb:w.heap[b]? = some (.cells cs t' fz))(zLO:t≠t'):xA (w.setCell ⟨b,j,none⟩ u) t a xs :=
 h.keep fun g cs' fz' hg=>ly _ _ _ _ (fun e=>by
  subst e;rw[hb]at hg;simp only[lk,Obj.cells.injEq]at hg;exact zLO hg.2.1.symm)
theorem yT(w:World)(o:Obj)(H:Nat)(hH:w.heap.size=H):(w.alloc o).heap[H]? = some o:=by subst hH;exact zG _ _
structure kE where
 kind:Int
 left:Int
 right:Int
 place:Int
 two:Bool
 other:Int
 num:Int
 less:Bool
 equal:Bool
 more:Bool
def qO(x:kE):List Value:=[.int .i64 x.kind,.int .i64 x.left,.int .i64 x.right,.int .i64 x.place,.bool x.two,.int .i64 x.other,.int .i64 x.num,.bool x.less,.bool x.equal,.bool x.more]
def nL(x:kE):Value:=.agg #[.int .i64 x.kind,.int .i64 x.left,.int .i64 x.right,.int .i64 x.place,.bool x.two,.int .i64 x.other,.int .i64 x.num,.bool x.less,.bool x.equal,.bool x.more]
structure lX where
 kind:Int
 num:Int
 place:Int
def pC(x:lX):List Value:=[.int .i64 x.kind,.int .i64 x.num,.int .i64 x.place]
def BW:lX:=⟨0,0,0⟩
def rJ:kE:=⟨0,0,0,0,false,0,0,false,false,false⟩
structure xK where
 label:Bs
 conc:Int
 sum:List lX
 guard:List kE
 root:Int
abbrev MX:=xK × Value × Value
def uF(x:MX):Value:=.agg #[.string ⟨x.1.label.toArray⟩,.int .i64 x.1.conc,x.2.1,x.2.2,.int .i64 x.1.root]
def jV(x:MX):List Value:=[.string ⟨x.1.label.toArray⟩,.int .i64 x.1.conc,x.2.1,x.2.2,.int .i64 x.1.root]
structure uN(w:World)(x:MX):Prop where
 sum:∃a c,x.2.1=.slice a x.1.sum.length c/\xA w 260 a (x.1.sum.flatMap pC)
 guard:∃a c,x.2.2=.slice a x.1.guard.length c/\xA w 263 a (x.1.guard.flatMap qO)
 few1:x.1.sum.length<=10000
 few2:x.1.guard.length<=10000
theorem uN.below{x:MX}(h:uN w x)(hb:Below w.heap.size w w'):uN w' x:=by
 obtain⟨a,c,h1,h2⟩:=h.sum;obtain⟨a',c',h3,h4⟩:=h.guard;exact⟨⟨a,c,h1,h2.below hb⟩,⟨a',c',h3,h4.below hb⟩,h.few1,h.few2⟩
structure zO where
 name:Bs
 isFlag:Bool
 low:Int
 high:Int
def Yl(x:zO):Value:=.agg #[.string ⟨x.name.toArray⟩,.bool x.isFlag,.int .i64 x.low,.int .i64 x.high]
def uL(x:zO):List Value:=[.string ⟨x.name.toArray⟩,.bool x.isFlag,.int .i64 x.low,.int .i64 x.high]
def wK:zO:=⟨[],false,0,0⟩
def jM(x:zE):zO:=if x.kind=1 then ⟨x.name,false,x.low,x.high⟩ else ⟨x.name,true,0,0⟩
def cX:List zE->List zO->List zO
 | [],acc=>acc
 | x::r,acc=>cX r (if x.kind=1\/x.kind=2 then acc++[jM x] else acc)
def zV(ls:List zE):List zO:=cX ls []
def xR(ls:List zE):List Bs:=(zV ls).map zO.name
theorem Co(i:Nat)(acc:List zO)(h:i<ls.length):cX (ls.drop i) acc=cX (ls.drop (i+1)) (if (lA ls i).kind=1\/(lA ls i).kind=2 then acc++[jM (lA ls i)] else acc):=by
 rw[pq h,cX];simp[lA,List.getD,h]
def Ke(ins:List Bs)(x:xI):Int:=if x.name=[] then 1 else if zH ins x.name<0 then 3 else 2
def vh(ins cs:List Bs)(x:xI):Int:=if x.name=[] then 0 else if zH ins x.name<0 then zH cs x.name else zH ins x.name
def UO(x:xI):Int:=if x.name=[] then x.num else if x.starred then x.num else 1
def xW(ins cs:List Bs)(x:xI):lX:=⟨Ke ins x,if x.minus then -UO x else UO x,vh ins cs x⟩
def UP(ins cs:List Bs)(x:zR):Int:=if x.kind=5 then zH cs x.name else if x.kind=6\/x.kind=7 then zH ins x.name else 0
def zH3(ins:List Bs)(x:zR):Int:=if x.other=[] then 0 else zH ins x.other
def DF(m:Bs):Bool:=decide (m=[60]\/m=[60,61]\/m=[33,61])
def Kj(m:Bs):Bool:=decide (m=[60,61]\/m=[61]\/m=[62,61])
def DE(m:Bs):Bool:=decide (m=[62]\/m=[62,61]\/m=[33,61])
def mD(ins cs:List Bs)(x:zR):kE:=⟨x.kind,x.left,x.right,UP ins cs x,decide (x.other≠[]),zH3 ins x,x.num,DF x.mark,Kj x.mark,DE x.mark⟩
def qI(ins cs:List Bs)(x:zE):xK:=⟨x.name,zH cs x.conc,x.sum.map (xW ins cs),x.nd.map (mD ins cs),x.root⟩
def fF(ins cs:List Bs):List zE->List xK->List xK
 | [],acc=>acc
 | x::r,acc=>fF ins cs r (if x.kind=3 then acc++[qI ins cs x] else acc)
def uZ(ins cs:List Bs)(ls:List zE):List xK:=fF ins cs ls []
theorem Vo(ins cs:List Bs)(ls:List zE)(i:Nat)(acc:List xK)(h:i<ls.length):fF ins cs (ls.drop i) acc=fF ins cs (ls.drop (i+1)) (if (lA ls i).kind=3 then acc++[qI ins cs (lA ls i)] else acc):=by
 rw[pq h,fF];simp[lA,List.getD,h]
theorem Gf(ins cs:List Bs)(ls:List zE):∀acc,fF ins cs ls acc=acc++(ls.filter fun x=>decide (x.kind=3)).map (qI ins cs):=by
 induction ls with
 | nil=>intro acc;simp[fF]
 | cons x r ih=>intro acc;rw[fF,ih];by_cases h:x.kind=3 <;> simp[h]
theorem wX:∀acc,cX ls acc=acc++(ls.filter fun x=>decide (x.kind=1\/x.kind=2)).map jM:=by
 induction ls with
 | nil=>intro acc;simp[cX]
 | cons x r ih=>intro acc;rw[cX,ih];by_cases h:x.kind=1\/x.kind=2 <;> simp[h]
theorem XI(x:zE):(jM x).name=x.name:=by unfold jM;split <;> rfl
theorem gE:xR ls=(ls.filter fun x=>decide (x.kind=1\/x.kind=2)).map zE.name:=by
 unfold xR zV;rw[wX,da,List.map_map];congr 1;funext x;exact XI x
theorem zCO(w:World)(a:Option Addr)(c:Nat)(ls:List LX)(h:tC w a ls) :
 Calls Tryz.prog 90 #[.slice a ls.length c] w fun e w'=>e=.returned (.agg (gC (zW (uE (yW (fs ls)) (fs ls) gZ))))/\Below w.heap.size w w':=by
 have HO:=zA (fun o=>Ft (w.alloc o) a c ls (h.below (fw (j1 _) o) (j1 _)));have HGL:Hid ((uE (yW (fs ls)) (fs ls) gZ).length=64):=by unfold Hid;rw[pX];exact xG
 clear h;generalize uE (yW (fs ls)) (fs ls) gZ=Go at *;have HCL:Hid ((zW Go).length=64):=by unfold Hid zW;rw[nB];exact HGL.out
 have HCh:=zA (fun w' g (hg:iL w' g Go)=>Uv w' g Go hg);generalize zW Go=Gc at *
 go_enter Tryz.func90,Tryz.ntmps90
 go_wp2_with fail
 refine(HO.out _).mono ?_;rintro e w1 ⟨rfl,hb1⟩;have hz1:w1.heap[w.heap.size]? = some (.cells (gC gZ) 125 (0,0)):=by rw[hb1.block _ (zX _ _)];exact zG _ _
 have hs1:=tj (zX w _) hb1.size;have HB1:Hid (Below w.heap.size w w1):=(fw (j1 _) _).trans (hb1.mono (pf (zX _ _)));have HZ1:=zA hz1;clear hb1 hz1 HO
 go_wp2_with (refine wpList_store_row ?zLS 125 (.tmp 3) (.tmp 5) ?ho w1.heap.size (gC Go) ?hx ?hy 125 (gC gZ) (zG w1 _) (kW HGL.out) ?zLU (lH Go) ?_
              case ho=>rfl
              case zLS=>rfl
              case hx=>rfl
              case hy=>rfl
              case zLU=>rw[uJ,uJ,xG,HGL.out])
 refine(HCh.out _ w1.heap.size ⟨cf _ _ (gC gZ) _ _ _ (zG w1 _),HGL.out⟩).mono ?_;rintro e w2 ⟨rfl,hb2⟩;have HBm:Hid (Below w.heap.size w ((w1.alloc (.cells (gC gZ) 125 (0,0))).setRow w1.heap.size (gC Go))):=xD (HB1.out.alloc (pf hs1) _) (pf hs1) _;have zLQ:((w1.alloc (.cells (gC gZ) 125 (0,0))).setRow w1.heap.size (gC Go)).heap.size=w1.heap.size+1:=by unfold World.setRow;simp
 have HB2:Hid (Below w.heap.size w w2):=HBm.out.trans (hb2.mono (by rw[zLQ];omega))
 have HZ2:Hid (w2.heap[w.heap.size]? = some (.cells (gC gZ) 125 (0,0))):=by
  unfold Hid;rw[hb2.block _ (by rw[zLQ];omega),setRow_other _ _ _ _ (by omega)];exact zT HZ1.out
 clear hb2 HBm zLQ HCh
 go_wp2_with (refine wpList_store_row ?zLS 125 (.tmp 2) (.tmp 6) ?ho w.heap.size (gC Gc) ?hx ?hy 125 (gC gZ) HZ2.out (kW HCL.out) ?zLU (lH Gc) ?_
              case ho=>rfl
              case zLS=>rfl
              case hx=>rfl
              case hy=>rfl
              case zLU=>rw[uJ,uJ,xG,HCL.out])
 refine pd (v:=.agg (gC Gc)) (results_cell_row Tryz.results90 _ _ w.heap.size 125 (gC Gc) (0,0) _ rfl (cf _ _ (gC gZ) _ _ _ HZ2.out) Tryz.underlying125 rfl (kW HCL.out)) rfl ⟨rfl,xD HB2.out (j1 _) _⟩
theorem CE(w:World)(s:Bs):∃wc cap,(convert 9 118 (.string ⟨s.toArray⟩)).run Tryz.prog w=.ok (.slice (some ⟨w.heap.size,0,none⟩) s.length cap) wc/\(convert 118 9 (.slice (some ⟨w.heap.size,0,none⟩) s.length cap)).run Tryz.prog wc=.ok (.string ⟨s.toArray⟩) wc/\Below w.heap.size w wc:=by
 have h1:=run_bytes_of_string (P:=Tryz.prog) w 9 118 5 ⟨s.toArray⟩ Tryz.underlying9 Tryz.underlying118 Tryz.underlying5;have zLQ:(⟨s.toArray⟩:ByteArray).size=s.length:=by simp[ByteArray.size]
 rw[zLQ]at h1;generalize grownCap w s.length 0 5=cap at h1;refine⟨_,cap,h1,?_,?_⟩
 ·refine run_convert_bytes_back (P:=Tryz.prog) _ 118 9 5 ⟨w.heap.size,0,none⟩ cap s Tryz.underlying118 Tryz.underlying5 Tryz.underlying9 (fun j hj=>?_)
  have h2:=zB (zG w.drew (.cells (bytesRow ⟨s.toArray⟩ cap) 5 ((bytesRow ⟨s.toArray⟩ cap).size,(bytesRow ⟨s.toArray⟩ cap).size+1))) j
  have h3:(bytesRow ⟨s.toArray⟩ cap)[j]? = some (.int .u8 (s[j].toNat:Int)):=by
   unfold bytesRow;rw[dr (by simpa using hj)];simp[hj]
  rw[h3]at h2;have e:(⟨w.heap.size,0,none⟩:Addr).add j=⟨w.heap.size,j,none⟩:=by simp[Addr.add];omega
  rw[e];exact h2
 ·exact(xH (tg w.heap.size w) 1).alloc (j1 _) _
theorem D5(w:World)(s:Bs):Calls Tryz.prog 92 #[.string ⟨s.toArray⟩] w fun e w'=>e=.returned (.string ⟨s.toArray⟩)/\Below w.heap.size w w':=by
 obtain⟨wc,cap,kc1,kc2,hbc⟩:=CE w s;have HB:=zA hbc;clear hbc
 go_enter Tryz.func92,Tryz.ntmps92
 go_wp2_with fail
 go_ret
 exact⟨rfl,HB.out⟩
theorem jw:(xE ls).length<=(zJ ls).length:=by
 have key:∀(S:List Nat) (hd:List Bs) (i:Nat) (acc:List (Bs × Nat)),(aJ S hd i acc).length<=acc.length+hd.length:=by
  intro S hd
  induction hd with
  | nil=>intro i acc;simp[aJ]
  | cons n r ih=>intro i acc;rw[aJ];have:=ih (i+1) (if i<8 then acc++[(n,S.getD i 0)] else acc);split at this <;> simp at this ⊢ <;> split <;> omega
 have:=key (tK (qN (zJ ls) ls gZ)) (zJ ls) 0 [];unfold xE;simpa using this
theorem Cp:(zJ ls).length<=ls.length:=by
 have key:∀(ls:List zE) (acc:List Bs),(uQ ls acc).length<=acc.length+ls.length:=by
  intro ls
  induction ls with
  | nil=>intro acc;simp[uQ]
  | cons x r ih=>intro acc;rw[uQ];have:=ih (if x.kind=3/\zH acc x.conc<0 then acc++[x.conc] else acc);split at this <;> simp at this ⊢ <;> split <;> omega
 have:=key ls [];unfold zJ;simpa using this
def bS(iv cv rv:Value)(G:List Bool):Array Value := #[iv,cv,rv]++gC G
def bR(iv cv rv:Value)(G:List Bool):Obj:=.cells (bS iv cv rv G) 127 (0,0)
theorem mF(iv cv rv:Value)(G:List Bool):(bS iv cv rv G).size=3+G.length:=by unfold bS;rw[Array.size_append,uJ];rfl
theorem X1(iv cv rv:Value)(G:List Bool)(k:Nat)(hk:k<G.length):(bS iv cv rv G)[3+k]? = some (.bool (G.getD k false)):=by
 unfold bS gC;rw[dt (by simp)];simp[List.getD,hk]
theorem Ki(iv cv rv:Value)(G:List Bool):(bS iv cv rv G)[0]? = some iv/\(bS iv cv rv G)[1]? = some cv/\(bS iv cv rv G)[2]? = some rv:=by
 unfold bS;refine⟨?_,?_,?_⟩ <;> rw[dr (by simp)] <;> rfl
theorem pA{G:List Bool}(h:w.heap[b]? = some (bR iv cv rv G)):w.cell? ⟨b,0,none⟩=some iv/\w.cell? ⟨b,1,none⟩=some cv/\w.cell? ⟨b,2,none⟩=some rv/\(∀k,k<G.length->w.cell? ⟨b,3+k,none⟩=some (.bool (G.getD k false)))/\∀j,w.frozen? ⟨b,j,none⟩=false:=by
 unfold bR at h;obtain⟨h0,h1,h2⟩:=Ki iv cv rv G;exact⟨(zB h 0).trans h0,(zB h 1).trans h1,(zB h 2).trans h2,fun k hk=>(zB h _).trans (X1 iv cv rv G k hk),fun j=>by simp[World.frozen?,h]⟩
theorem DC{G:List Bool}(h:w.heap[b]? = some (bR iv cv rv G)):(w.setCell ⟨b,0,none⟩ v).heap[b]? = some (bR v cv rv G):=by
 unfold bR at h ⊢;rw[tq w b 0 _ _ _ h];congr 2;unfold bS;rw[Array.setIfInBounds_append,tl (by simp)];rfl
theorem zEX{G:List Bool}(h:w.heap[b]? = some (bR iv cv rv G)):(w.setCell ⟨b,1,none⟩ v).heap[b]? = some (bR iv v rv G):=by
 unfold bR at h ⊢;rw[tq w b 1 _ _ _ h];congr 2;unfold bS;rw[Array.setIfInBounds_append,tl (by simp)];rfl
theorem zEW{G:List Bool}(h:w.heap[b]? = some (bR iv cv rv G)):(w.setCell ⟨b,2,none⟩ v).heap[b]? = some (bR iv cv v G):=by
 unfold bR at h ⊢;rw[tq w b 2 _ _ _ h];congr 2;unfold bS;rw[Array.setIfInBounds_append,tl (by simp)];rfl
theorem JY(h:G.length=64):G=(List.range 64).map (fun i=>G.getD i false):=by
 apply List.ext_getElem?
 intro i;by_cases hi:i<64
 ·simp[hi,List.getD,h]
 ·rw[List.getElem?_eq_none (by omega),List.getElem?_eq_none (by simp;omega)]
theorem G7(h:G.length=64):Tryz.prog.built 127 [(3,.agg (gC G))]=some (bS (.slice none 0 0) (.slice none 0 0) (.slice none 0 0) G):=by
 have key:∀b:Nat->Bool,Tryz.prog.built 127 [(3,.agg (gC ((List.range 64).map b)))]=some (bS (.slice none 0 0) (.slice none 0 0) (.slice none 0 0) ((List.range 64).map b)):=fun b=>by kernel_rfl
 rw[JY G h];exact key _
theorem zFP:∀v∈gC G,v.oneCell'=true:=by
 intro v hv;have:=Array.all_eq_true_iff_forall_mem.1 (lH G) v hv;exact this
theorem Kh(h0:iv.oneCell'=true)(h1:cv.oneCell'=true)(h2:rv.oneCell'=true)(G:List Bool):(bS iv cv rv G).all (·.oneCell')=true:=by
 rw[Array.all_eq_true_iff_forall_mem];intro v hv;unfold bS at hv;rcases Array.mem_append.1 hv with h|h
 ·simp at h;rcases h with rfl|rfl|rfl <;> assumption
 ·exact zFP G v h
theorem sW{G:List Bool}(h:G.length=64)(iv cv rv:Value):(Tryz.prog.info? 127).map (·.size)=some (bS iv cv rv G).size:=by rw[mF,h];kernel_rfl
theorem VE:Tryz.zeroCells127=bS (.slice none 0 0) (.slice none 0 0) (.slice none 0 0) gZ:=by kernel_rfl
theorem jy(L:List (Bs × Nat))(i:Nat)(h:i<L.length):ZA (L.take (i+1))=ZA (L.take i)++[.string ⟨(L.getD i ([],0)).1.toArray⟩,.int .i64 ((L.getD i ([],0)).2:Nat)]:=by
 have:L.take (i+1)=L.take i++[L.getD i ([],0)]:=by rw[db];simp[List.getD,h]
 rw[this,VH]
theorem wF(w:World)(B:Nat)(t:TypeId)(k:Nat):w.ownsRow B t k (.slice none 0 0) 0 []:=⟨by simp,.inl ⟨rfl,rfl⟩⟩
theorem Yu(w:World)(b o:Nat)(ia:Option Addr)(ic:Nat)(L:List zO)(nm:Bs)(hm:w.cell? ⟨b,o,none⟩=some (.slice ia L.length ic))(hc:jR w ia (L.flatMap uL))(hf:L.length<=10000) :
 Calls Tryz.prog 86 #[.pointer (some ⟨b,o,none⟩),.string ⟨nm.toArray⟩] w fun e w'=>e=.returned (.int .i64 (zH (L.map zO.name) nm))/\Below w.heap.size w w':=by
 have HC:=zA hc;clear hc
 go_enter Tryz.func86,Tryz.ntmps86
 go_wp2_with fail
 go_loopw [12] (fun iv wr=>∃(i:Nat),i<=L.length/\iv=.int .i64 i/\Hid (Below w.heap.size w wr)/\Hid (qL nm ((L.map zO.name).drop i) i=zH (L.map zO.name) nm)) (fun iv _=>L.length-(intOf iv).toNat)
 case atStart=>exact⟨0,tx _,rfl,zA (tg _ _),zA rfl⟩
 case round =>
  obtain⟨i,hi,rfl,HB,HE⟩:=hrel;have zLQ:=HB.out.size;by_cases zLL:i<L.length
  ·have hcr:=HC.out.below HB.out
   obtain⟨g,rfl,q0⟩:=hcr.at ((zQ uL 4 (fun _=>rfl) wK L i 0 zLL (by decide)).trans rfl);have q1:=(hcr.at ((zQ uL 4 (fun _=>rfl) wK L i 1 zLL (by decide)).trans rfl)).elim fun g' h=>(show g=g' by simpa using h.1) ▸ h.2;have q2:=(hcr.at ((zQ uL 4 (fun _=>rfl) wK L i 2 zLL (by decide)).trans rfl)).elim fun g' h=>(show g=g' by simpa using h.1) ▸ h.2;have q3:=(hcr.at ((zQ uL 4 (fun _=>rfl) wK L i 3 zLL (by decide)).trans rfl)).elim fun g' h=>(show g=g' by simpa using h.1) ▸ h.2;rw[ld]at q0;have hE:=HE.out;rw[eX nm (L.map zO.name) i (by simpa using zLL)]at hE;have zLS:(L.map zO.name).getD i []=zO.name (L.getD i wK):=by simp[List.getD,zLL]
   rw[zLS]at hE;have HE2:=zA hE;have lg:=yR q0;have mg:wr.heap.size≠g:=by omega
   clear HE hE hcr zLS;generalize L.getD i wK=x at *;obtain⟨x0,x1,x2,x3⟩:=x;simp only at q0 q1 q2 q3 HE2;by_cases k1:x0=nm
   ·have HE3:Hid (zH (L.map zO.name) nm=i):=by have:=HE2.out;rw[tl k1]at this;exact this.symm
    have b1:(x0==nm)=true:=by simpa using k1
    clear HE2 k1;go_wp2_with fail
    go_ret
    exact⟨yP HE3.out.symm,HB.out.alloc zLQ _⟩
   ·have HE3:Hid (qL nm ((L.map zO.name).drop (i+1)) (i+1)=zH (L.map zO.name) nm):=by have:=HE2.out;rw[tb k1]at this;exact this
    have b1:(x0==nm)=false:=by simpa using k1
    clear HE2 k1;go_wp2_with fail
    go_roundw
    case rel=>exact⟨i+1,by omega,by go_num,zA (HB.out.alloc zLQ _),HE3⟩
    case measure=>simp[intOf];omega
  ·have HE3:Hid (zH (L.map zO.name) nm = -1):=by have:=HE.out;rw[ph (by simp;omega)]at this;exact this.symm
   clear HE;go_wp2_with fail
   go_ret
   exact⟨yP HE3.out.symm,HB.out⟩
def zF0(x:Bs × Nat):List Value:=[.string ⟨x.1.toArray⟩,.int .i64 (x.2:Nat)]
theorem CA(w:World)(b o:Nat)(ia:Option Addr)(ic:Nat)(L:List (Bs × Nat))(nm:Bs)(hm:w.cell? ⟨b,o+1,none⟩=some (.slice ia L.length ic))(hc:jR w ia (L.flatMap zF0))(hf:L.length<=10000) :
 Calls Tryz.prog 137 #[.pointer (some ⟨b,o,none⟩),.string ⟨nm.toArray⟩] w fun e w'=>e=.returned (.int .i64 (zH (L.map Prod.fst) nm))/\Below w.heap.size w w':=by
 have HC:=zA hc;clear hc
 go_enter Tryz.func137,Tryz.ntmps137
 go_wp2_with fail
 go_loopw [12] (fun iv wr=>∃(i:Nat),i<=L.length/\iv=.int .i64 i/\Hid (Below w.heap.size w wr)/\Hid (qL nm ((L.map Prod.fst).drop i) i=zH (L.map Prod.fst) nm)) (fun iv _=>L.length-(intOf iv).toNat)
 case atStart=>exact⟨0,tx _,rfl,zA (tg _ _),zA rfl⟩
 case round =>
  obtain⟨i,hi,rfl,HB,HE⟩:=hrel;have zLQ:=HB.out.size;by_cases zLL:i<L.length
  ·have hcr:=HC.out.below HB.out
   obtain⟨g,rfl,q0⟩:=hcr.at ((zQ zF0 2 (fun _=>rfl) ([],0) L i 0 zLL (by decide)).trans rfl);have q1:=(hcr.at ((zQ zF0 2 (fun _=>rfl) ([],0) L i 1 zLL (by decide)).trans rfl)).elim fun g' h=>(show g=g' by simpa using h.1) ▸ h.2;rw[ld]at q0;have hE:=HE.out;rw[eX nm (L.map Prod.fst) i (by simpa using zLL)]at hE;have zLS:(L.map Prod.fst).getD i []=Prod.fst (L.getD i ([],0)):=by simp[List.getD,zLL]
   rw[zLS]at hE;have HE2:=zA hE;have lg:=yR q0;have mg:wr.heap.size≠g:=by omega
   clear HE hE hcr zLS;generalize L.getD i ([],0)=x at *;obtain⟨x0,x1⟩:=x;simp only at q0 q1 HE2;by_cases k1:x0=nm
   ·have HE3:Hid (zH (L.map Prod.fst) nm=i):=by have:=HE2.out;rw[tl k1]at this;exact this.symm
    have b1:(x0==nm)=true:=by simpa using k1
    clear HE2 k1;go_wp2_with fail
    go_ret
    exact⟨yP HE3.out.symm,HB.out.alloc zLQ _⟩
   ·have HE3:Hid (qL nm ((L.map Prod.fst).drop (i+1)) (i+1)=zH (L.map Prod.fst) nm):=by have:=HE2.out;rw[tb k1]at this;exact this
    have b1:(x0==nm)=false:=by simpa using k1
    clear HE2 k1;go_wp2_with fail
    go_roundw
    case rel=>exact⟨i+1,by omega,by go_num,zA (HB.out.alloc zLQ _),HE3⟩
    case measure=>simp[intOf];omega
  ·have HE3:Hid (zH (L.map Prod.fst) nm = -1):=by have:=HE.out;rw[ph (by simp;omega)]at this;exact this.symm
   clear HE;go_wp2_with fail
   go_ret
   exact⟨yP HE3.out.symm,HB.out⟩
end Go.Proofs.YtnbpdffdnphbeabGreatDoor
