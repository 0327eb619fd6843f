import Derived.Test.YtnbpdffdnphbeabGreatDoorRgLinks
import Derived.Laws.IdiomStrings
open Go.Proofs.Tryz
set_option maxHeartbeats 2000000
set_option maxRecDepth 100000
namespace Go.Proofs.YtnbpdffdnphbeabGreatDoor
open Go.RowKit
variable{xs:List Value}{b k n j B:Nat}{a:Option Addr}{t:TypeId}{v cv rv iv:Value}{w' w:World}(ls:List zE)(G:List Bool)
def kQ(w:World)(a:Option Addr)(xs:List Value):Prop:=xs=[]\/∃g,a=some ⟨g,0,none⟩/\∀j,j<xs.length->w.cell? ⟨g,j,none⟩=xs[j]?
theorem kQ.below(h:kQ w a xs)(hb:Below w.heap.size w w'):kQ w' a xs:=by
 rcases h with h|⟨g,h1,h2⟩
 ·exact .inl h
 ·refine .inr ⟨g,h1,λj hj=>?_⟩
  have h3:=h2 j hj;rw[pm hj]at h3;rw[hb.cell (p:=⟨g,j,none⟩) (yJ h3),h3,pm hj]
theorem kQ.at(h:kQ w a xs)(hj:xs[j]? = some v):∃g,a=some ⟨g,0,none⟩/\w.cell? ⟨g,j,none⟩=some v:=by
 rcases h with h|⟨g,h1,h2⟩
 ·rw[h]at hj;simp at hj
 ·exact⟨g,h1,(h2 j (dl.1 hj).1).trans hj⟩
theorem oJ(h:w.ownsRow B t k v n xs):∃a c,v=.slice a n c/\kQ w a xs/\n<=c/\c<=maxLen:=by
 have hl:=h.1;rcases h.2 with ⟨h1,h2⟩|⟨g,cap,yB,h1,_,h3,h4,h5,_,h7⟩
 ·refine⟨none,0,by rw[h1,h2],.inl (l5 (by rw[hl,h2,fa])),by omega,p8⟩
 ·exact⟨some ⟨g,0,none⟩,cap,h1,.inr ⟨g,rfl,λj hj=>by
   have:=pm hj;rw[this];exact xL h3 (n:=n*k) h7 this⟩,h4,h5⟩
theorem zV{α:Type}(f:α->List Value)(k:Nat)(hf:∀x,(f x).length=k)(d:α)(L:List α):∀i r,i<L.length->r<k->(L.flatMap f)[i*k+r]? = (f (L.getD i d))[r]? := by
 induction L with
 | nil=>intro i r h;simp at h
 | cons x L ih =>
   intro i r hi hr;rw[cg]
   cases i with
   | zero=>rw[fa,cw,mj (by rw[hf];exact hr)];rfl
   | succ i =>
     rw[l8 (by rw[hf];rw[Nat.succ_mul];omega),hf,show (i+1)*k+r-k=i*k+r by rw[Nat.succ_mul];omega,ih i r (by simpa using hi) hr];rfl
theorem RM{α:Type}(f:α->List Value)(k:Nat)(hf:∀x,(f x).length=k)(L:List α):(L.flatMap f).length=L.length*k:=by
 induction L with
 | nil=>simp
 | cons x L ih=>rw[cg,tm,hf,ih,pb,Nat.succ_mul,Nat.add_comm]
def xX(w:World)(t:TypeId)(a:Option Addr)(xs:List Value):Prop:=xs=[]\/∃g cs fz,a=some ⟨g,0,none⟩/\w.heap[g]? = some (.cells cs t fz)/\∀j,j<xs.length->cs[j]? = xs[j]?
theorem xX.ay(h:xX w t a xs):kQ w a xs:=by
 rcases h with h|⟨g,cs,fz,h1,h2,h3⟩
 ·exact .inl h
 ·exact .inr ⟨g,h1,λj hj=>(zC h2 j).trans (h3 j hj)⟩
theorem uT(h:w.ownsRow B t k v n xs):∃a c,v=.slice a n c/\xX w t a xs:=by
 have hl:=h.1;rcases h.2 with ⟨h1,h2⟩|⟨g,cap,yB,h1,_,h3,h4,h5,_,h7⟩
 ·exact⟨none,0,by rw[h1,h2],.inl (l5 (by rw[hl,h2,fa]))⟩
 ·exact⟨some ⟨g,0,none⟩,cap,h1,.inr ⟨g,yB,_,rfl,h3,λj hj=>by
   rw[<-h7,dw,tr (by rw[<-hl];exact hj),da]⟩⟩
theorem xX.keep(h:xX w t a xs)(hk:∀(g:Nat) (cs:Array Value) (fz:Nat × Nat),w.heap[g]? = some (Obj.cells cs t fz)->w'.heap[g]? = w.heap[g]?):xX w' t a xs:=by
 rcases h with h|⟨g,cs,fz,h1,h2,h3⟩
 ·exact .inl h
 ·exact .inr ⟨g,cs,fz,h1,by rw[hk g cs fz h2];exact h2,h3⟩
theorem xX.below(h:xX w t a xs)(hb:Below w.heap.size w w'):xX w' t a xs :=
 h.keep λg _ _ hg=>hb.block g (zP hg)
theorem xX.grown{e:TypeId}{ys:List Value}(h:xX w t a xs)(aS:w.ownsRow B e k v n ys)(aH:t≠e)(hg:w.grownBy w' v.ownBlock):xX w' t a xs :=
 h.keep λg cs fz aN=>hg.block g (zP aN) (λe1=>by
  rcases aS.2 with ⟨k1,_⟩|⟨g',cap,yB,k1,_,k3,_⟩
  ·rw[k1]at e1;simp[Value.ownBlock]at e1
  ·rw[k1]at e1;simp[Value.ownBlock]at e1
   subst e1;rw[aN]at k3;simp only[bi,Obj.cells.injEq]at k3;exact aH k3.2.1)
theorem xX.set(h:xX w t a xs){u:Value}{cs:Array Value}{t':TypeId}{fz:Nat × Nat}(hb:w.heap[b]? = some (.cells cs t' fz))(aH:t≠t'):xX (w.setCell ⟨b,j,none⟩ u) t a xs :=
 h.keep λg cs' aZ hg=>l6 _ _ _ _ (λe=>by
  subst e;rw[hb]at hg;simp only[bi,Obj.cells.injEq]at hg;exact aH hg.2.1.symm)
theorem uA(w:World)(o:Obj)(H:Nat)(hH:w.heap.size=H):(w.alloc o).heap[H]? = some o:=by subst hH;exact zF _ _
def dH(B:Nat)(w:World)(t:TypeId)(a:Option Addr)(xs:List Value):Prop:=xs=[]\/∃g cs,B<=g/\a=some ⟨g,0,none⟩/\w.heap[g]? = some (.cells cs t (0,0))/\∀j,j<xs.length->cs[j]? = xs[j]?
theorem dH.below(h:dH B w t a xs)(hb:Below w.heap.size w w'):dH B w' t a xs:=by
 rcases h with h|⟨g,cs,h0,h1,h2,h3⟩
 ·exact .inl h
 ·exact .inr ⟨g,cs,h0,h1,(hb.block g (zP h2)).trans h2,h3⟩
theorem dH.set(h:dH B w t a xs){u:Value}{cs:Array Value}{t':TypeId}{fz:Nat × Nat}(hb:w.heap[b]? = some (.cells cs t' fz))(aH:t≠t'):dH B (w.setCell ⟨b,j,none⟩ u) t a xs:=by
 rcases h with h|⟨g,cs',h0,h1,h2,h3⟩
 ·exact .inl h
 ·refine .inr ⟨g,cs',h0,h1,?_,h3⟩
  rw[l6 _ _ _ _ (λe=>by
   subst e;rw[hb]at h2;simp only[bi,Obj.cells.injEq]at h2;exact aH h2.2.1.symm)]
  exact h2
theorem dH.Hs(h:dH B w t a xs):xX w t a xs:=by
 rcases h with h|⟨g,cs,h0,h1,h2,h3⟩
 ·exact .inl h
 ·exact .inr ⟨g,cs,_,h1,h2,h3⟩
theorem dH.mono{B':Nat}(h:dH B w t a xs)(hB:B'<=B):dH B' w t a xs:=by
 rcases h with h|⟨g,cs,h0,h1,h2,h3⟩
 ·exact .inl h
 ·exact .inr ⟨g,cs,by omega,h1,h2,h3⟩
theorem ZK{B0 m c:Nat}(h:w.ownsRow B t k (.slice a m c) n xs)(hB:B0<=B):dH B0 w t a xs:=by
 have hl:=h.1;rcases h.2 with ⟨h1,h2⟩|⟨g,cap,yB,h1,aY,h3,h4,h5,_,h7⟩
 ·exact .inl (l5 (by rw[hl,h2,fa]))
 ·simp only[ct]at h1
  exact .inr ⟨g,yB,by omega,h1.1,h3,λj hj=>by
   rw[<-h7,dw,tr (by rw[<-hl];exact hj),da]⟩
structure kP where
 kind:Int
 left:Int
 right:Int
 place:Int
 two:Bool
 other:Int
 num:Int
 less:Bool
 equal:Bool
 more:Bool
def kK(x:kP):List Value:=[.int .i64 x.kind,.int .i64 x.left,.int .i64 x.right,.int .i64 x.place,.bool x.two,.int .i64 x.other,.int .i64 x.num,.bool x.less,.bool x.equal,.bool x.more]
def oM(x:kP):Value:=.agg #[.int .i64 x.kind,.int .i64 x.left,.int .i64 x.right,.int .i64 x.place,.bool x.two,.int .i64 x.other,.int .i64 x.num,.bool x.less,.bool x.equal,.bool x.more]
structure iD where
 kind:Int
 num:Int
 place:Int
def cI(x:iD):List Value:=[.int .i64 x.kind,.int .i64 x.num,.int .i64 x.place]
def si:iD:=⟨0,0,0⟩
def sG:kP:=⟨0,0,0,0,false,0,0,false,false,false⟩
structure xN where
 label:Bs
 ae:Int
 sum:List iD
 guard:List kP
 root:Int
abbrev MX:=xN × Value × Value
def qS(x:MX):Value:=.agg #[.string ⟨x.1.label.toArray⟩,.int .i64 x.1.ae,x.2.1,x.2.2,.int .i64 x.1.root]
def cG(x:MX):List Value:=[.string ⟨x.1.label.toArray⟩,.int .i64 x.1.ae,x.2.1,x.2.2,.int .i64 x.1.root]
structure kE(w:World)(x:MX):Prop where
 sum:∃a c,x.2.1=.slice a x.1.sum.length c/\xX w 260 a (x.1.sum.flatMap cI)
 guard:∃a c,x.2.2=.slice a x.1.guard.length c/\xX w 263 a (x.1.guard.flatMap kK)
 ek:x.1.sum.length<=10000
 ef:x.1.guard.length<=10000
theorem kE.below{x:MX}(h:kE w x)(hb:Below w.heap.size w w'):kE w' x:=by
 obtain⟨a,c,h1,h2⟩:=h.sum;obtain⟨a',c',h3,h4⟩:=h.guard;exact⟨⟨a,c,h1,h2.below hb⟩,⟨a',c',h3,h4.below hb⟩,h.ek,h.ef⟩
structure yA where
 name:Bs
 ft:Bool
 low:Int
 high:Int
def FO(x:yA):Value:=.agg #[.string ⟨x.name.toArray⟩,.bool x.ft,.int .i64 x.low,.int .i64 x.high]
def kD(x:yA):List Value:=[.string ⟨x.name.toArray⟩,.bool x.ft,.int .i64 x.low,.int .i64 x.high]
def nw:yA:=⟨[],false,0,0⟩
def bE(x:zE):yA:=if x.kind=1 then ⟨x.name,false,x.low,x.high⟩ else ⟨x.name,true,0,0⟩
def nM:List zE->List yA->List yA
 | [],acc=>acc
 | x::r,acc=>nM r (if x.kind=1\/x.kind=2 then acc++[bE x] else acc)
def yC(ls:List zE):List yA:=nM ls []
def qE(ls:List zE):List Bs:=(yC ls).map yA.name
theorem D7(i:Nat)(acc:List yA)(h:i<ls.length):nM (ls.drop i) acc=nM (ls.drop (i+1)) (if (lA ls i).kind=1\/(lA ls i).kind=2 then acc++[bE (lA ls i)] else acc):=by
 rw[ph h,nM];simp[lA,List.getD,h]
def rm(ins:List Bs)(x:yT):Int:=if x.name=[] then 1 else if zQ ins x.name<0 then 3 else 2
def wu(ins cs:List Bs)(x:yT):Int:=if x.name=[] then 0 else if zQ ins x.name<0 then zQ cs x.name else zQ ins x.name
def Ak(x:yT):Int:=if x.name=[] then x.num else if x.ak then x.num else 1
def qJ(ins cs:List Bs)(x:yT):iD:=⟨rm ins x,if x.minus then -Ak x else Ak x,wu ins cs x⟩
def BV(ins cs:List Bs)(x:zJ):Int:=if x.kind=5 then zQ cs x.name else if x.kind=6\/x.kind=7 then zQ ins x.name else 0
def wo(ins:List Bs)(x:zJ):Int:=if x.other=[] then 0 else zQ ins x.other
def FW(m:Bs):Bool:=decide (m=[60]\/m=[60,61]\/m=[33,61])
def Vi(m:Bs):Bool:=decide (m=[60,61]\/m=[61]\/m=[62,61])
def FU(m:Bs):Bool:=decide (m=[62]\/m=[62,61]\/m=[33,61])
def lF(ins cs:List Bs)(x:zJ):kP:=⟨x.kind,x.left,x.right,BV ins cs x,decide (x.other≠[]),wo ins x,x.num,FW x.mark,Vi x.mark,FU x.mark⟩
def qT(ins cs:List Bs)(x:zE):xN:=⟨x.name,zQ cs x.ae,x.sum.map (qJ ins cs),x.nd.map (lF ins cs),x.root⟩
def gX(ins cs:List Bs):List zE->List xN->List xN
 | [],acc=>acc
 | x::r,acc=>gX ins cs r (if x.kind=3 then acc++[qT ins cs x] else acc)
def uJ(ins cs:List Bs)(ls:List zE):List xN:=gX ins cs ls []
theorem Uj(ins cs:List Bs)(ls:List zE)(i:Nat)(acc:List xN)(h:i<ls.length):gX ins cs (ls.drop i) acc=gX ins cs (ls.drop (i+1)) (if (lA ls i).kind=3 then acc++[qT ins cs (lA ls i)] else acc):=by
 rw[ph h,gX];simp[lA,List.getD,h]
theorem zx(ins cs:List Bs)(ls:List zE):∀acc,gX ins cs ls acc=acc++(ls.filter λx=>decide (x.kind=3)).map (qT ins cs):=by
 induction ls with
 | nil=>intro acc;simp[gX]
 | cons x r ih=>intro acc;rw[gX,ih];by_cases h:x.kind=3 <;> simp[h]
theorem Qv:∀acc,nM ls acc=acc++(ls.filter λx=>decide (x.kind=1\/x.kind=2)).map bE:=by
 induction ls with
 | nil=>intro acc;simp[nM]
 | cons x r ih=>intro acc;rw[nM,ih];by_cases h:x.kind=1\/x.kind=2 <;> simp[h]
theorem iX(x:zE):(bE x).name=x.name:=by unfold bE;split <;> rfl
theorem nN:qE ls=(ls.filter λx=>decide (x.kind=1\/x.kind=2)).map zE.name:=by
 unfold qE yC;rw[Qv,lu,List.map_map];congr 1;funext x;exact iX x
theorem Pa(w:World)(a:Option Addr)(c:Nat)(ls:List LX)(h:tT w a ls) :
 Calls prog 90 #[.slice a ls.length c] w λe w'=>e=.returned (.agg (gC (zT (qN (vQ (fs ls)) (fs ls) gZ))))/\Below w.heap.size w w':=by
 have HO:=zA (λo=>VD (w.alloc o) a c ls (h.below (fk (tg _) o) (tg _)));have aI:Hid ((qN (vQ (fs ls)) (fs ls) gZ).length=64):=by unfold Hid;rw[mY];exact yX
 clear h;generalize qN (vQ (fs ls)) (fs ls) gZ=Go at *;have aM:Hid ((zT Go).length=64):=by unfold Hid zT;rw[gW];exact aI.out
 have aQ:=zA (λw' g (hg:rL w' g Go)=>QP w' g Go hg);generalize zT Go=Gc at *
 go_enter func90,ntmps90
 go_wp2_with fail
 refine(HO.out _).mono ?_;rintro e w1 ⟨rfl,hb1⟩;have hz1:w1.heap[w.heap.size]? = some (.cells (gC gZ) 125 (0,0)):=by rw[hb1.block _ (zY _ _)];exact zF _ _
 have hs1:=tq (zY w _) hb1.size;have aV:Hid (Below w.heap.size w w1):=(fk (tg _) _).trans (hb1.mono (p7 (zY _ _)));have aT:=zA hz1;clear hb1 hz1 HO
 go_wp2_with (refine wpList_store_row ?aF 125 (.tmp 3) (.tmp 5) ?ho w1.heap.size (gC Go) ?hx ?hy 125 (gC gZ) (zF w1 _) (qF aI.out) ?aJ (jW Go) ?_
              case ho=>rfl
              case aF=>rfl
              case hx=>rfl
              case hy=>rfl
              case aJ=>rw[xK,xK,yX,aI.out])
 refine(aQ.out _ w1.heap.size ⟨l9 _ _ (gC gZ) _ (zF w1 _),aI.out⟩).mono ?_;rintro e w2 ⟨rfl,aL⟩;have aR:Hid (Below w.heap.size w ((w1.alloc (.cells (gC gZ) 125 (0,0))).setRow w1.heap.size (gC Go))):=yK (aV.out.alloc (p7 hs1) _) (p7 hs1) _;have aA:((w1.alloc (.cells (gC gZ) 125 (0,0))).setRow w1.heap.size (gC Go)).heap.size=w1.heap.size+1:=by unfold World.setRow;simp
 have aU:Hid (Below w.heap.size w w2):=aR.out.trans (aL.mono (by rw[aA];omega))
 have aP:Hid (w2.heap[w.heap.size]? = some (.cells (gC gZ) 125 (0,0))):=by
  unfold Hid;rw[aL.block _ (by rw[aA];omega),setRow_other _ _ _ _ (by omega)];exact yD aT.out
 clear aL aR aA aQ
 go_wp2_with (refine wpList_store_row ?aF 125 (.tmp 2) (.tmp 6) ?ho w.heap.size (gC Gc) ?hx ?hy 125 (gC gZ) aP.out (qF aM.out) ?aJ (jW Gc) ?_
              case ho=>rfl
              case aF=>rfl
              case hx=>rfl
              case hy=>rfl
              case aJ=>rw[xK,xK,yX,aM.out])
 refine pe (v:=.agg (gC Gc)) (results_cell_row results90 _ _ w.heap.size 125 (gC Gc) (0,0) _ rfl (l9 _ _ (gC gZ) _ aP.out) underlying125 rfl (qF aM.out)) rfl ⟨rfl,yK aU.out (tg _) _⟩
theorem DZ(w:World)(s:Bs):∃wc cap,(convert 9 118 (.string ⟨s.toArray⟩)).run prog w=.ok (.slice (some ⟨w.heap.size,0,none⟩) s.length cap) wc/\(convert 118 9 (.slice (some ⟨w.heap.size,0,none⟩) s.length cap)).run prog wc=.ok (.string ⟨s.toArray⟩) wc/\Below w.heap.size w wc:=by
 have h1:=run_bytes_of_string (P:=prog) w 9 118 5 ⟨s.toArray⟩ underlying9 underlying118 underlying5;have aA:(⟨s.toArray⟩:ByteArray).size=s.length:=by simp[ByteArray.size]
 rw[aA]at h1;generalize grownCap w s.length 0 5=cap at h1;refine⟨_,cap,h1,?_,?_⟩
 ·refine run_convert_bytes_back (P:=prog) _ 118 9 5 ⟨w.heap.size,0,none⟩ cap s underlying118 underlying5 underlying9 (λj hj=>?_)
  have h2:=zC (zF w.drew (.cells (bytesRow ⟨s.toArray⟩ cap) 5 ((bytesRow ⟨s.toArray⟩ cap).size,(bytesRow ⟨s.toArray⟩ cap).size+1))) j
  have h3:(bytesRow ⟨s.toArray⟩ cap)[j]? = some (.int .u8 (s[j].toNat:Int)):=by
   unfold bytesRow;rw[fg (by simpa using hj)];simp[hj]
  rw[h3]at h2;have e:(⟨w.heap.size,0,none⟩:Addr).add j=⟨w.heap.size,j,none⟩:=by simp[Addr.add];omega
  rw[e];exact h2
 ·exact(xQ (tl w.heap.size w) 1).alloc (tg _) _
theorem FH(w:World)(s:Bs):Calls prog 92 #[.string ⟨s.toArray⟩] w λe w'=>e=.returned (.string ⟨s.toArray⟩)/\Below w.heap.size w w':=by
 obtain⟨wc,cap,aX,aW,aO⟩:=DZ w s;have HB:=zA aO;clear aO
 go_enter func92,ntmps92
 go_wp2_with fail
 go_ret
 exact⟨rfl,HB.out⟩
theorem R0:(xR ls).length<=(zX ls).length:=by
 have key:∀(S:List Nat) (hd:List Bs) (i:Nat) (acc:List (Bs × Nat)),(eA S hd i acc).length<=acc.length+hd.length:=by
  intro S hd
  induction hd with
  | nil=>intro i acc;simp[eA]
  | cons n r ih=>intro i acc;rw[eA];have:=ih (i+1) (if i<8 then acc++[(n,S.getD i 0)] else acc);split at this <;> simp at this ⊢ <;> split <;> omega
 have:=key (pE (kW (zX ls) ls gZ)) (zX ls) 0 [];unfold xR;simpa using this
theorem D8:(zX ls).length<=ls.length:=by
 have key:∀(ls:List zE) (acc:List Bs),(uY ls acc).length<=acc.length+ls.length:=by
  intro ls
  induction ls with
  | nil=>intro acc;simp[uY]
  | cons x r ih=>intro acc;rw[uY];have:=ih (if x.kind=3/\zQ acc x.ae<0 then acc++[x.ae] else acc);split at this <;> simp at this ⊢ <;> split <;> omega
 have:=key ls [];unfold zX;simpa using this
def cZ(iv cv rv:Value)(G:List Bool):Array Value := #[iv,cv,rv]++gC G
def cY(iv cv rv:Value)(G:List Bool):Obj:=.cells (cZ iv cv rv G) 127 (0,0)
theorem lG(iv cv rv:Value)(G:List Bool):(cZ iv cv rv G).size=3+G.length:=by unfold cZ;rw[Array.size_append,xK];rfl
theorem U8(iv cv rv:Value)(G:List Bool)(k:Nat)(hk:k<G.length):(cZ iv cv rv G)[3+k]? = some (.bool (G.getD k false)):=by
 unfold cZ gC;rw[Array.getElem?_append_right (by simp)];simp[List.getD,hk]
theorem FR(iv cv rv:Value)(G:List Bool):(cZ iv cv rv G)[0]? = some iv/\(cZ iv cv rv G)[1]? = some cv/\(cZ iv cv rv G)[2]? = some rv:=by
 unfold cZ;refine⟨?_,?_,?_⟩ <;> rw[fg (by simp)] <;> rfl
theorem mE{G:List Bool}(h:w.heap[b]? = some (cY iv cv rv G)):w.cell? ⟨b,0,none⟩=some iv/\w.cell? ⟨b,1,none⟩=some cv/\w.cell? ⟨b,2,none⟩=some rv/\(∀k,k<G.length->w.cell? ⟨b,3+k,none⟩=some (.bool (G.getD k false)))/\∀j,w.frozen? ⟨b,j,none⟩=false:=by
 unfold cY at h;obtain⟨h0,h1,h2⟩:=FR iv cv rv G;exact⟨(zC h 0).trans h0,(zC h 1).trans h1,(zC h 2).trans h2,λk hk=>(zC h _).trans (U8 iv cv rv G k hk),λj=>by simp[World.frozen?,h]⟩
theorem FQ{G:List Bool}(h:w.heap[b]? = some (cY iv cv rv G)):(w.setCell ⟨b,0,none⟩ v).heap[b]? = some (cY v cv rv G):=by
 unfold cY at h ⊢;rw[p9 w b 0 _ _ _ h];congr 2;unfold cZ;rw[Array.setIfInBounds_append,tr (by simp)];rfl
theorem N8{G:List Bool}(h:w.heap[b]? = some (cY iv cv rv G)):(w.setCell ⟨b,1,none⟩ v).heap[b]? = some (cY iv v rv G):=by
 unfold cY at h ⊢;rw[p9 w b 1 _ _ _ h];congr 2;unfold cZ;rw[Array.setIfInBounds_append,tr (by simp)];rfl
theorem N9{G:List Bool}(h:w.heap[b]? = some (cY iv cv rv G)):(w.setCell ⟨b,2,none⟩ v).heap[b]? = some (cY iv cv v G):=by
 unfold cY at h ⊢;rw[p9 w b 2 _ _ _ h];congr 2;unfold cZ;rw[Array.setIfInBounds_append,tr (by simp)];rfl
theorem KR(h:G.length=64):G=(List.range 64).map (λi=>G.getD i false):=by
 apply List.ext_getElem?
 intro i;by_cases hi:i<64
 ·simp[hi,List.getD,h]
 ·rw[List.getElem?_eq_none (by omega),List.getElem?_eq_none (by simp;omega)]
theorem vm(h:G.length=64):prog.built 127 [(3,.agg (gC G))]=some (cZ (.slice none 0 0) (.slice none 0 0) (.slice none 0 0) G):=by
 have key:∀b:Nat->Bool,prog.built 127 [(3,.agg (gC ((List.range 64).map b)))]=some (cZ (.slice none 0 0) (.slice none 0 0) (.slice none 0 0) ((List.range 64).map b)):=λb=>by kernel_rfl
 rw[KR G h];exact key _
theorem Nf:∀v∈gC G,v.oneCell'=true:=by
 intro v hv;have:=Array.all_eq_true_iff_forall_mem.1 (jW G) v hv;exact this
theorem Vh(h0:iv.oneCell'=true)(h1:cv.oneCell'=true)(h2:rv.oneCell'=true)(G:List Bool):(cZ iv cv rv G).all (·.oneCell')=true:=by
 rw[Array.all_eq_true_iff_forall_mem];intro v hv;unfold cZ at hv;rcases Array.mem_append.1 hv with h|h
 ·simp at h;rcases h with rfl|rfl|rfl <;> assumption
 ·exact Nf G v h
theorem aK{G:List Bool}(h:G.length=64)(iv cv rv:Value):(prog.info? 127).map (·.size)=some (cZ iv cv rv G).size:=by rw[lG,h];kernel_rfl
theorem U7:zeroCells127=cZ (.slice none 0 0) (.slice none 0 0) (.slice none 0 0) gZ:=by kernel_rfl
theorem Rw(L:List (Bs × Nat))(i:Nat)(h:i<L.length):Jx (L.take (i+1))=Jx (L.take i)++[.string ⟨(L.getD i ([],0)).1.toArray⟩,.int .i64 ((L.getD i ([],0)).2:Nat)]:=by
 have:L.take (i+1)=L.take i++[L.getD i ([],0)]:=by rw[dc];simp[List.getD,h]
 rw[this,UA]
theorem Zp(w:World)(B:Nat)(t:TypeId)(k:Nat):w.ownsRow B t k (.slice none 0 0) 0 []:=⟨by simp,.inl ⟨rfl,rfl⟩⟩
theorem BR(w:World)(b o:Nat)(ia:Option Addr)(ic:Nat)(L:List yA)(nm:Bs)(hm:w.cell? ⟨b,o,none⟩=some (.slice ia L.length ic))(hc:kQ w ia (L.flatMap kD))(hf:L.length<=10000) :
 Calls prog 86 #[.pointer (some ⟨b,o,none⟩),.string ⟨nm.toArray⟩] w λe w'=>e=.returned (.int .i64 (zQ (L.map yA.name) nm))/\Below w.heap.size w w':=by
 have HC:=zA hc;clear hc
 go_enter func86,ntmps86
 go_wp2_with fail
 go_loopw [12] (λiv wr=>∃(i:Nat),i<=L.length/\iv=.int .i64 i/\Hid (Below w.heap.size w wr)/\Hid (kJ nm ((L.map yA.name).drop i) i=zQ (L.map yA.name) nm)) (λiv _=>L.length-(intOf iv).toNat)
 case atStart=>exact⟨0,p8,rfl,zA (tl _ _),zA rfl⟩
 case round =>
  obtain⟨i,hi,rfl,HB,HE⟩:=hrel;have aA:=HB.out.size;by_cases aB:i<L.length
  ·have aG:=HC.out.below HB.out
   obtain⟨g,rfl,q0⟩:=aG.at ((zV kD 4 (λ_=>rfl) nw L i 0 aB (by decide)).trans rfl);have q1:=(aG.at ((zV kD 4 (λ_=>rfl) nw L i 1 aB (by decide)).trans rfl)).elim λg' h=>(show g=g' by simpa using h.1) ▸ h.2;have q2:=(aG.at ((zV kD 4 (λ_=>rfl) nw L i 2 aB (by decide)).trans rfl)).elim λg' h=>(show g=g' by simpa using h.1) ▸ h.2;have q3:=(aG.at ((zV kD 4 (λ_=>rfl) nw L i 3 aB (by decide)).trans rfl)).elim λg' h=>(show g=g' by simpa using h.1) ▸ h.2;rw[lh]at q0;have hE:=HE.out;rw[wC nm (L.map yA.name) i (by simpa using aB)]at hE;have aF:(L.map yA.name).getD i []=yA.name (L.getD i nw):=by simp[List.getD,aB]
   rw[aF]at hE;have aD:=zA hE;have lg:=yJ q0;have mg:wr.heap.size≠g:=by omega
   clear HE hE aG aF;generalize L.getD i nw=x at *;obtain⟨x0,x1,x2,x3⟩:=x;simp only at q0 q1 q2 q3 aD;by_cases k1:x0=nm
   ·have aC:Hid (zQ (L.map yA.name) nm=i):=by have:=aD.out;rw[tr k1]at this;exact this.symm
    have b1:(x0==nm)=true:=(by simpa using k1);clear aD k1;go_wp2_with fail
    go_ret
    exact⟨yY aC.out.symm,HB.out.alloc aA _⟩
   ·have aC:Hid (kJ nm ((L.map yA.name).drop (i+1)) (i+1)=zQ (L.map yA.name) nm):=by have:=aD.out;rw[tj k1]at this;exact this
    have b1:(x0==nm)=false:=(by simpa using k1);clear aD k1;go_wp2_with fail
    go_roundw
    case rel=>exact⟨i+1,by omega,by go_num,zA (HB.out.alloc aA _),aC⟩
    case measure=>simp[intOf];omega
  ·have aC:Hid (zQ (L.map yA.name) nm = -1):=by have:=HE.out;rw[pf (by simp;omega)]at this;exact this.symm
   clear HE;go_wp2_with fail
   go_ret
   exact⟨yY aC.out.symm,HB.out⟩
def EJ(x:Bs × Nat):List Value:=[.string ⟨x.1.toArray⟩,.int .i64 (x.2:Nat)]
theorem DU(w:World)(b o:Nat)(ia:Option Addr)(ic:Nat)(L:List (Bs × Nat))(nm:Bs)(hm:w.cell? ⟨b,o+1,none⟩=some (.slice ia L.length ic))(hc:kQ w ia (L.flatMap EJ))(hf:L.length<=10000) :
 Calls prog 137 #[.pointer (some ⟨b,o,none⟩),.string ⟨nm.toArray⟩] w λe w'=>e=.returned (.int .i64 (zQ (L.map Prod.fst) nm))/\Below w.heap.size w w':=by
 have HC:=zA hc;clear hc
 go_enter func137,ntmps137
 go_wp2_with fail
 go_loopw [12] (λiv wr=>∃(i:Nat),i<=L.length/\iv=.int .i64 i/\Hid (Below w.heap.size w wr)/\Hid (kJ nm ((L.map Prod.fst).drop i) i=zQ (L.map Prod.fst) nm)) (λiv _=>L.length-(intOf iv).toNat)
 case atStart=>exact⟨0,p8,rfl,zA (tl _ _),zA rfl⟩
 case round =>
  obtain⟨i,hi,rfl,HB,HE⟩:=hrel;have aA:=HB.out.size;by_cases aB:i<L.length
  ·have aG:=HC.out.below HB.out
   obtain⟨g,rfl,q0⟩:=aG.at ((zV EJ 2 (λ_=>rfl) ([],0) L i 0 aB (by decide)).trans rfl);have q1:=(aG.at ((zV EJ 2 (λ_=>rfl) ([],0) L i 1 aB (by decide)).trans rfl)).elim λg' h=>(show g=g' by simpa using h.1) ▸ h.2;rw[lh]at q0;have hE:=HE.out;rw[wC nm (L.map Prod.fst) i (by simpa using aB)]at hE;have aF:(L.map Prod.fst).getD i []=Prod.fst (L.getD i ([],0)):=by simp[List.getD,aB]
   rw[aF]at hE;have aD:=zA hE;have lg:=yJ q0;have mg:wr.heap.size≠g:=by omega
   clear HE hE aG aF;generalize L.getD i ([],0)=x at *;obtain⟨x0,x1⟩:=x;simp only at q0 q1 aD;by_cases k1:x0=nm
   ·have aC:Hid (zQ (L.map Prod.fst) nm=i):=by have:=aD.out;rw[tr k1]at this;exact this.symm
    have b1:(x0==nm)=true:=(by simpa using k1);clear aD k1;go_wp2_with fail
    go_ret
    exact⟨yY aC.out.symm,HB.out.alloc aA _⟩
   ·have aC:Hid (kJ nm ((L.map Prod.fst).drop (i+1)) (i+1)=zQ (L.map Prod.fst) nm):=by have:=aD.out;rw[tj k1]at this;exact this
    have b1:(x0==nm)=false:=(by simpa using k1);clear aD k1;go_wp2_with fail
    go_roundw
    case rel=>exact⟨i+1,by omega,by go_num,zA (HB.out.alloc aA _),aC⟩
    case measure=>simp[intOf];omega
  ·have aC:Hid (zQ (L.map Prod.fst) nm = -1):=by have:=HE.out;rw[pf (by simp;omega)]at this;exact this.symm
   clear HE;go_wp2_with fail
   go_ret
   exact⟨yY aC.out.symm,HB.out⟩
end Go.Proofs.YtnbpdffdnphbeabGreatDoor
