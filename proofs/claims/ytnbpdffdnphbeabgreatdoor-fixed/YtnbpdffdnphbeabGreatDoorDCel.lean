import Derived.Test.YtnbpdffdnphbeabGreatDoorRgLinks
import Derived.Laws.IdiomStrings
set_option maxHeartbeats 2000000
set_option maxRecDepth 100000
namespace Go.Proofs.YtnbpdffdnphbeabGreatDoor
open Go.RowKit
variable{xs:List Value}{n B b:Nat}{a:Option Addr}{t:TypeId}{iv rv v cv:Value}{w' w:World}(ls:List zE)(G:List Bool)
def bQ(w:World)(a:Option Addr)(xs:List Value):Prop:=xs=[]\/∃g,a=some ⟨g,0,none⟩/\∀j,j<xs.length->w.cell? ⟨g,j,none⟩=xs[j]?
theorem bQ.below(h:bQ w a xs)(hb:Below w.heap.size w w'):bQ w' a xs:=by
 rcases h with h|⟨g,h1,h2⟩
 ·exact .inl h
 ·refine .inr ⟨g,h1,fun j hj=>?_⟩
  have h3:=h2 j hj;rw[p9 hj]at h3;rw[hb.cell (p:=⟨g,j,none⟩) (yO h3),h3,p9 hj]
theorem bQ.at(h:bQ w a xs){j:Nat}(hj:xs[j]? = some v):∃g,a=some ⟨g,0,none⟩/\w.cell? ⟨g,j,none⟩=some v:=by
 rcases h with h|⟨g,h1,h2⟩
 ·rw[h]at hj;simp at hj
 ·exact⟨g,h1,(h2 j (List.getElem?_eq_some_iff.1 hj).1).trans hj⟩
theorem VZ{k:Nat}(h:w.ownsRow B t k v n xs):∃a c,v=.slice a n c/\bQ w a xs/\n<=c/\c<=maxLen:=by
 have hl:=h.1;rcases h.2 with ⟨h1,h2⟩|⟨g,cap,yJ,h1,_,h3,h4,h5,_,h7⟩
 ·refine⟨none,0,by rw[h1,h2],.inl (ml (by rw[hl,h2,Nat.zero_mul])),by omega,tq _⟩
 ·exact⟨some ⟨g,0,none⟩,cap,h1,.inr ⟨g,rfl,fun j hj=>by
   have:=p9 hj;rw[this];exact xF h3 (n:=n*k) h7 this⟩,h4,h5⟩
theorem zY{α:Type}(f:α->List Value)(k:Nat)(hf:∀x,(f x).length=k)(d:α)(L:List α):∀i r,i<L.length->r<k->(L.flatMap f)[i*k+r]? = (f (L.getD i d))[r]? := by
 induction L with
 | nil=>intro i r h;simp at h
 | cons x L ih =>
   intro i r hi hr;rw[ba]
   cases i with
   | zero=>rw[Nat.zero_mul,bs,pm (by rw[hf];exact hr)];rfl
   | succ i =>
     rw[ma (by rw[hf];rw[Nat.succ_mul];omega),hf,show (i+1)*k+r-k=i*k+r by rw[Nat.succ_mul];omega,ih i r (by simpa using hi) hr];rfl
theorem sF{α:Type}(f:α->List Value)(k:Nat)(hf:∀x,(f x).length=k)(L:List α):(L.flatMap f).length=L.length*k:=by
 induction L with
 | nil=>simp
 | cons x L ih=>rw[ba,tb,hf,ih,ty,Nat.succ_mul,Nat.add_comm]
def xB(w:World)(t:TypeId)(a:Option Addr)(xs:List Value):Prop:=xs=[]\/∃g cs fz,a=some ⟨g,0,none⟩/\w.heap[g]? = some (.cells cs t fz)/\∀j,j<xs.length->cs[j]? = xs[j]?
theorem xB.cel(h:xB w t a xs):bQ w a xs:=by
 rcases h with h|⟨g,cs,fz,h1,h2,h3⟩
 ·exact .inl h
 ·exact .inr ⟨g,h1,fun j hj=>(zC h2 j).trans (h3 j hj)⟩
theorem vR{k:Nat}(h:w.ownsRow B t k v n xs):∃a c,v=.slice a n c/\xB w t a xs:=by
 have hl:=h.1;rcases h.2 with ⟨h1,h2⟩|⟨g,cap,yJ,h1,_,h3,h4,h5,_,h7⟩
 ·exact⟨none,0,by rw[h1,h2],.inl (ml (by rw[hl,h2,Nat.zero_mul]))⟩
 ·exact⟨some ⟨g,0,none⟩,cap,h1,.inr ⟨g,yJ,_,rfl,h3,fun j hj=>by
   rw[<-h7,ct,tg (by rw[<-hl];exact hj),d9]⟩⟩
theorem xB.keep(h:xB w t a xs)(hk:∀(g:Nat) (cs:Array Value) (fz:Nat × Nat),w.heap[g]? = some (Obj.cells cs t fz)->w'.heap[g]? = w.heap[g]?):xB w' t a xs:=by
 rcases h with h|⟨g,cs,fz,h1,h2,h3⟩
 ·exact .inl h
 ·exact .inr ⟨g,cs,fz,h1,by rw[hk g cs fz h2];exact h2,h3⟩
theorem xB.below(h:xB w t a xs)(hb:Below w.heap.size w w'):xB w' t a xs :=
 h.keep fun g _ _ hg=>hb.block g (zL hg)
theorem xB.grown{e:TypeId}{k:Nat}{ys:List Value}(h:xB w t a xs)(zEA:w.ownsRow B e k v n ys)(zEB:t≠e)(hg:w.grownBy w' v.ownBlock):xB w' t a xs :=
 h.keep fun g cs fz hgg=>hg.block g (zL hgg) (fun e1=>by
  rcases zEA.2 with ⟨k1,_⟩|⟨g',cap,yJ,k1,_,k3,_⟩
  ·rw[k1]at e1;simp[Value.ownBlock]at e1
  ·rw[k1]at e1;simp[Value.ownBlock]at e1
   subst e1;rw[hgg]at k3;simp only[mw,Obj.cells.injEq]at k3;exact zEB k3.2.1)
theorem xB.set(h:xB w t a xs){j:Nat}{u:Value}{cs:Array Value}{t':TypeId}{fz:Nat × Nat}(hb:w.heap[b]? = some (.cells cs t' fz))(zEB:t≠t'):xB (w.setCell ⟨b,j,none⟩ u) t a xs :=
 h.keep fun g cs' fz' hg=>ms _ _ _ _ (fun e=>by
  subst e;rw[hb]at hg;simp only[mw,Obj.cells.injEq]at hg;exact zEB hg.2.1.symm)
theorem vV(w:World)(o:Obj)(H:Nat)(hH:w.heap.size=H):(w.alloc o).heap[H]? = some o:=by subst hH;exact zH _ _
structure jQ where
 kind:Int
 left:Int
 right:Int
 place:Int
 two:Bool
 other:Int
 num:Int
 less:Bool
 equal:Bool
 more:Bool
def jJ(x:jQ):List Value:=[.int .i64 x.kind,.int .i64 x.left,.int .i64 x.right,.int .i64 x.place,.bool x.two,.int .i64 x.other,.int .i64 x.num,.bool x.less,.bool x.equal,.bool x.more]
def dI(x:jQ):Value:=.agg #[.int .i64 x.kind,.int .i64 x.left,.int .i64 x.right,.int .i64 x.place,.bool x.two,.int .i64 x.other,.int .i64 x.num,.bool x.less,.bool x.equal,.bool x.more]
structure mK where
 kind:Int
 num:Int
 place:Int
def pP(x:mK):List Value:=[.int .i64 x.kind,.int .i64 x.num,.int .i64 x.place]
def DH:mK:=⟨0,0,0⟩
def XY:jQ:=⟨0,0,0,0,false,0,0,false,false,false⟩
structure tX where
 label:Bs
 conc:Int
 sum:List mK
 guard:List jQ
 root:Int
abbrev MX:=tX × Value × Value
def dH(x:MX):Value:=.agg #[.string ⟨x.1.label.toArray⟩,.int .i64 x.1.conc,x.2.1,x.2.2,.int .i64 x.1.root]
def lT(x:MX):List Value:=[.string ⟨x.1.label.toArray⟩,.int .i64 x.1.conc,x.2.1,x.2.2,.int .i64 x.1.root]
structure qQ(w:World)(x:MX):Prop where
 sum:∃a c,x.2.1=.slice a x.1.sum.length c/\xB w 260 a (x.1.sum.flatMap pP)
 guard:∃a c,x.2.2=.slice a x.1.guard.length c/\xB w 263 a (x.1.guard.flatMap jJ)
 few1:x.1.sum.length<=10000
 few2:x.1.guard.length<=10000
theorem qQ.below{x:MX}(h:qQ w x)(hb:Below w.heap.size w w'):qQ w' x:=by
 obtain⟨a,c,h1,h2⟩:=h.sum;obtain⟨a',c',h3,h4⟩:=h.guard;exact⟨⟨a,c,h1,h2.below hb⟩,⟨a',c',h3,h4.below hb⟩,h.few1,h.few2⟩
structure zV where
 name:Bs
 isFlag:Bool
 low:Int
 high:Int
def Uf(x:zV):Value:=.agg #[.string ⟨x.name.toArray⟩,.bool x.isFlag,.int .i64 x.low,.int .i64 x.high]
def uN(x:zV):List Value:=[.string ⟨x.name.toArray⟩,.bool x.isFlag,.int .i64 x.low,.int .i64 x.high]
def eX:zV:=⟨[],false,0,0⟩
def tQ(x:zE):zV:=if x.kind=1 then ⟨x.name,false,x.low,x.high⟩ else ⟨x.name,true,0,0⟩
def bA:List zE->List zV->List zV
 | [],acc=>acc
 | x::r,acc=>bA r (if x.kind=1\/x.kind=2 then acc++[tQ x] else acc)
def yE(ls:List zE):List zV:=bA ls []
def uF(ls:List zE):List Bs:=(yE ls).map zV.name
theorem KR(i:Nat)(acc:List zV)(h:i<ls.length):bA (ls.drop i) acc=bA (ls.drop (i+1)) (if (lA ls i).kind=1\/(lA ls i).kind=2 then acc++[tQ (lA ls i)] else acc):=by
 rw[pe h,bA];simp[lA,List.getD,h]
def Xr(ins:List Bs)(x:yT):Int:=if x.name=[] then 1 else if zJ ins x.name<0 then 3 else 2
def C1(ins cs:List Bs)(x:yT):Int:=if x.name=[] then 0 else if zJ ins x.name<0 then zJ cs x.name else zJ ins x.name
def JE(x:yT):Int:=if x.name=[] then x.num else if x.starred then x.num else 1
def xJ(ins cs:List Bs)(x:yT):mK:=⟨Xr ins x,if x.minus then -JE x else JE x,C1 ins cs x⟩
def JF(ins cs:List Bs)(x:zM):Int:=if x.kind=5 then zJ cs x.name else if x.kind=6\/x.kind=7 then zJ ins x.name else 0
def jk(ins:List Bs)(x:zM):Int:=if x.other=[] then 0 else zJ ins x.other
def Uk(m:Bs):Bool:=decide (m=[60]\/m=[60,61]\/m=[33,61])
def Xw(m:Bs):Bool:=decide (m=[60,61]\/m=[61]\/m=[62,61])
def Uj(m:Bs):Bool:=decide (m=[62]\/m=[62,61]\/m=[33,61])
def tO(ins cs:List Bs)(x:zM):jQ:=⟨x.kind,x.left,x.right,JF ins cs x,decide (x.other≠[]),jk ins x,x.num,Uk x.mark,Xw x.mark,Uj x.mark⟩
def jB(ins cs:List Bs)(x:zE):tX:=⟨x.name,zJ cs x.conc,x.sum.map (xJ ins cs),x.nd.map (tO ins cs),x.root⟩
def bZ(ins cs:List Bs):List zE->List tX->List tX
 | [],acc=>acc
 | x::r,acc=>bZ ins cs r (if x.kind=3 then acc++[jB ins cs x] else acc)
def kJ(ins cs:List Bs)(ls:List zE):List tX:=bZ ins cs ls []
theorem Qq(ins cs:List Bs)(ls:List zE)(i:Nat)(acc:List tX)(h:i<ls.length):bZ ins cs (ls.drop i) acc=bZ ins cs (ls.drop (i+1)) (if (lA ls i).kind=3 then acc++[jB ins cs (lA ls i)] else acc):=by
 rw[pe h,bZ];simp[lA,List.getD,h]
theorem UY(ins cs:List Bs)(ls:List zE):∀acc,bZ ins cs ls acc=acc++(ls.filter fun x=>decide (x.kind=3)).map (jB ins cs):=by
 induction ls with
 | nil=>intro acc;simp[bZ]
 | cons x r ih=>intro acc;rw[bZ,ih];by_cases h:x.kind=3 <;> simp[h]
theorem Zx:∀acc,bA ls acc=acc++(ls.filter fun x=>decide (x.kind=1\/x.kind=2)).map tQ:=by
 induction ls with
 | nil=>intro acc;simp[bA]
 | cons x r ih=>intro acc;rw[bA,ih];by_cases h:x.kind=1\/x.kind=2 <;> simp[h]
theorem Z0(x:zE):(tQ x).name=x.name:=by unfold tQ;split <;> rfl
theorem fX:uF ls=(ls.filter fun x=>decide (x.kind=1\/x.kind=2)).map zE.name:=by
 unfold uF yE;rw[Zx,ci,List.map_map];congr 1;funext x;exact Z0 x
theorem GN(w:World)(a:Option Addr)(c:Nat)(ls:List LX)(h:kT w a ls) :
 Calls Tryz.prog 90 #[.slice a ls.length c] w fun e w'=>e=.returned (.agg (gC (zR (uB (xP (fs ls)) (fs ls) gZ))))/\Below w.heap.size w w':=by
 have HO:=zA (fun o=>UD (w.alloc o) a c ls (h.below (da (j1 _) o) (j1 _)));have HGL:Hid ((uB (xP (fs ls)) (fs ls) gZ).length=64):=by unfold Hid;rw[mE];exact yY
 clear h;generalize uB (xP (fs ls)) (fs ls) gZ=Go at *;have HCL:Hid ((zR Go).length=64):=by unfold Hid zR;rw[dA];exact HGL.out
 have HCh:=zA (fun w' g (hg:oX w' g Go)=>Ju w' g Go hg);generalize zR Go=Gc at *
 go_enter Tryz.func90,Tryz.ntmps90
 go_wp2_with fail
 refine(HO.out _).mono ?_;rintro e w1 ⟨rfl,hb1⟩;have hz1:w1.heap[w.heap.size]? = some (.cells (gC gZ) 125 (0,0)):=by rw[hb1.block _ (zQ _ _)];exact zH _ _
 have hs1:=t8 (zQ w _) hb1.size;have HB1:Hid (Below w.heap.size w w1):=(da (j1 _) _).trans (hb1.mono (p6 (zQ _ _)));have HZ1:=zA hz1;clear hb1 hz1 HO
 go_wp2_with (refine wpList_store_row ?zEG 125 (.tmp 3) (.tmp 5) ?ho w1.heap.size (gC Go) ?hx ?hy 125 (gC gZ) (zH w1 _) (qP HGL.out) ?zEH (jL Go) ?_
              case ho=>rfl
              case zEG=>rfl
              case hx=>rfl
              case hy=>rfl
              case zEH=>rw[xK,xK,yY,HGL.out])
 refine(HCh.out _ w1.heap.size ⟨lq _ _ (gC gZ) _ _ _ (zH w1 _),HGL.out⟩).mono ?_;rintro e w2 ⟨rfl,hb2⟩;have HBm:Hid (Below w.heap.size w ((w1.alloc (.cells (gC gZ) 125 (0,0))).setRow w1.heap.size (gC Go))):=xC (HB1.out.alloc (p6 hs1) _) (p6 hs1) _;have zEF:((w1.alloc (.cells (gC gZ) 125 (0,0))).setRow w1.heap.size (gC Go)).heap.size=w1.heap.size+1:=by unfold World.setRow;simp
 have HB2:Hid (Below w.heap.size w w2):=HBm.out.trans (hb2.mono (by rw[zEF];omega))
 have HZ2:Hid (w2.heap[w.heap.size]? = some (.cells (gC gZ) 125 (0,0))):=by
  unfold Hid;rw[hb2.block _ (by rw[zEF];omega),setRow_other _ _ _ _ (by omega)];exact zZ HZ1.out
 clear hb2 HBm zEF HCh
 go_wp2_with (refine wpList_store_row ?zEG 125 (.tmp 2) (.tmp 6) ?ho w.heap.size (gC Gc) ?hx ?hy 125 (gC gZ) HZ2.out (qP HCL.out) ?zEH (jL Gc) ?_
              case ho=>rfl
              case zEG=>rfl
              case hx=>rfl
              case hy=>rfl
              case zEH=>rw[xK,xK,yY,HCL.out])
 refine p5 (v:=.agg (gC Gc)) (results_cell_row Tryz.results90 _ _ w.heap.size 125 (gC Gc) (0,0) _ rfl (lq _ _ (gC gZ) _ _ _ HZ2.out) Tryz.underlying125 rfl (qP HCL.out)) rfl ⟨rfl,xC HB2.out (j1 _) _⟩
theorem Vr(w:World)(s:Bs):∃wc cap,(convert 9 118 (.string ⟨s.toArray⟩)).run Tryz.prog w=.ok (.slice (some ⟨w.heap.size,0,none⟩) s.length cap) wc/\(convert 118 9 (.slice (some ⟨w.heap.size,0,none⟩) s.length cap)).run Tryz.prog wc=.ok (.string ⟨s.toArray⟩) wc/\Below w.heap.size w wc:=by
 have h1:=run_bytes_of_string (P:=Tryz.prog) w 9 118 5 ⟨s.toArray⟩ Tryz.underlying9 Tryz.underlying118 Tryz.underlying5;have zEF:(⟨s.toArray⟩:ByteArray).size=s.length:=by simp[ByteArray.size]
 rw[zEF]at h1;generalize grownCap w s.length 0 5=cap at h1;refine⟨_,cap,h1,?_,?_⟩
 ·refine run_convert_bytes_back (P:=Tryz.prog) _ 118 9 5 ⟨w.heap.size,0,none⟩ cap s Tryz.underlying118 Tryz.underlying5 Tryz.underlying9 (fun j hj=>?_)
  have h2:=zC (zH w.drew (.cells (bytesRow ⟨s.toArray⟩ cap) 5 ((bytesRow ⟨s.toArray⟩ cap).size,(bytesRow ⟨s.toArray⟩ cap).size+1))) j
  have h3:(bytesRow ⟨s.toArray⟩ cap)[j]? = some (.int .u8 (s[j].toNat:Int)):=by
   unfold bytesRow;rw[Array.getElem?_append_left (by simpa using hj)];simp[hj]
  rw[h3]at h2;have e:(⟨w.heap.size,0,none⟩:Addr).add j=⟨w.heap.size,j,none⟩:=by simp[Addr.add];omega
  rw[e];exact h2
 ·exact(xD (t9 w.heap.size w) 1).alloc (j1 _) _
theorem VY(w:World)(s:Bs):Calls Tryz.prog 92 #[.string ⟨s.toArray⟩] w fun e w'=>e=.returned (.string ⟨s.toArray⟩)/\Below w.heap.size w w':=by
 obtain⟨wc,cap,kc1,kc2,hbc⟩:=Vr w s;have HB:=zA hbc;clear hbc
 go_enter Tryz.func92,Tryz.ntmps92
 go_wp2_with fail
 go_ret
 exact⟨rfl,HB.out⟩
theorem DR:(xO ls).length<=(zN ls).length:=by
 have key:∀(S:List Nat) (hd:List Bs) (i:Nat) (acc:List (Bs × Nat)),(nS S hd i acc).length<=acc.length+hd.length:=by
  intro S hd
  induction hd with
  | nil=>intro i acc;simp[nS]
  | cons n r ih=>intro i acc;rw[nS];have:=ih (i+1) (if i<8 then acc++[(n,S.getD i 0)] else acc);split at this <;> simp at this ⊢ <;> split <;> omega
 have:=key (jC (uE (zN ls) ls gZ)) (zN ls) 0 [];unfold xO;simpa using this
theorem KU:(zN ls).length<=ls.length:=by
 have key:∀(ls:List zE) (acc:List Bs),(vD ls acc).length<=acc.length+ls.length:=by
  intro ls
  induction ls with
  | nil=>intro acc;simp[vD]
  | cons x r ih=>intro acc;rw[vD];have:=ih (if x.kind=3/\zJ acc x.conc<0 then acc++[x.conc] else acc);split at this <;> simp at this ⊢ <;> split <;> omega
 have:=key ls [];unfold zN;simpa using this
def bN(iv cv rv:Value)(G:List Bool):Array Value := #[iv,cv,rv]++gC G
def lB(iv cv rv:Value)(G:List Bool):Obj:=.cells (bN iv cv rv G) 127 (0,0)
theorem mF(iv cv rv:Value)(G:List Bool):(bN iv cv rv G).size=3+G.length:=by unfold bN;rw[Array.size_append,xK];rfl
theorem QA(iv cv rv:Value)(G:List Bool)(k:Nat)(hk:k<G.length):(bN iv cv rv G)[3+k]? = some (.bool (G.getD k false)):=by
 unfold bN gC;rw[cj (by simp)];simp[List.getD,hk]
theorem Ui(iv cv rv:Value)(G:List Bool):(bN iv cv rv G)[0]? = some iv/\(bN iv cv rv G)[1]? = some cv/\(bN iv cv rv G)[2]? = some rv:=by
 unfold bN;refine⟨?_,?_,?_⟩ <;> rw[Array.getElem?_append_left (by simp)] <;> rfl
theorem jR{G:List Bool}(h:w.heap[b]? = some (lB iv cv rv G)):w.cell? ⟨b,0,none⟩=some iv/\w.cell? ⟨b,1,none⟩=some cv/\w.cell? ⟨b,2,none⟩=some rv/\(∀k,k<G.length->w.cell? ⟨b,3+k,none⟩=some (.bool (G.getD k false)))/\∀j,w.frozen? ⟨b,j,none⟩=false:=by
 unfold lB at h;obtain⟨h0,h1,h2⟩:=Ui iv cv rv G;exact⟨(zC h 0).trans h0,(zC h 1).trans h1,(zC h 2).trans h2,fun k hk=>(zC h _).trans (QA iv cv rv G k hk),fun j=>by simp[World.frozen?,h]⟩
theorem Uh{G:List Bool}(h:w.heap[b]? = some (lB iv cv rv G)):(w.setCell ⟨b,0,none⟩ v).heap[b]? = some (lB v cv rv G):=by
 unfold lB at h ⊢;rw[tj w b 0 _ _ _ h];congr 2;unfold bN;rw[Array.setIfInBounds_append,tg (by simp)];rfl
theorem vt{G:List Bool}(h:w.heap[b]? = some (lB iv cv rv G)):(w.setCell ⟨b,1,none⟩ v).heap[b]? = some (lB iv v rv G):=by
 unfold lB at h ⊢;rw[tj w b 1 _ _ _ h];congr 2;unfold bN;rw[Array.setIfInBounds_append,tg (by simp)];rfl
theorem vr{G:List Bool}(h:w.heap[b]? = some (lB iv cv rv G)):(w.setCell ⟨b,2,none⟩ v).heap[b]? = some (lB iv cv v G):=by
 unfold lB at h ⊢;rw[tj w b 2 _ _ _ h];congr 2;unfold bN;rw[Array.setIfInBounds_append,tg (by simp)];rfl
theorem Xk(h:G.length=64):G=(List.range 64).map (fun i=>G.getD i false):=by
 apply List.ext_getElem?
 intro i;by_cases hi:i<64
 ·simp[hi,List.getD,h]
 ·rw[List.getElem?_eq_none (by omega),List.getElem?_eq_none (by simp;omega)]
theorem Bv(h:G.length=64):Tryz.prog.built 127 [(3,.agg (gC G))]=some (bN (.slice none 0 0) (.slice none 0 0) (.slice none 0 0) G):=by
 have key:∀b:Nat->Bool,Tryz.prog.built 127 [(3,.agg (gC ((List.range 64).map b)))]=some (bN (.slice none 0 0) (.slice none 0 0) (.slice none 0 0) ((List.range 64).map b)):=fun b=>by kernel_rfl
 rw[Xk G h];exact key _
theorem uv:∀v∈gC G,v.oneCell'=true:=by
 intro v hv;have:=Array.all_eq_true_iff_forall_mem.1 (jL G) v hv;exact this
theorem Xv(h0:iv.oneCell'=true)(h1:cv.oneCell'=true)(h2:rv.oneCell'=true)(G:List Bool):(bN iv cv rv G).all (·.oneCell')=true:=by
 rw[Array.all_eq_true_iff_forall_mem];intro v hv;unfold bN at hv;rcases Array.mem_append.1 hv with h|h
 ·simp at h;rcases h with rfl|rfl|rfl <;> assumption
 ·exact uv G v h
theorem rM{G:List Bool}(h:G.length=64)(iv cv rv:Value):(Tryz.prog.info? 127).map (·.size)=some (bN iv cv rv G).size:=by rw[mF,h];kernel_rfl
theorem Q9:Tryz.zeroCells127=bN (.slice none 0 0) (.slice none 0 0) (.slice none 0 0) gZ:=by kernel_rfl
theorem DS(L:List (Bs × Nat))(i:Nat)(h:i<L.length):eI (L.take (i+1))=eI (L.take i)++[.string ⟨(L.getD i ([],0)).1.toArray⟩,.int .i64 ((L.getD i ([],0)).2:Nat)]:=by
 have:L.take (i+1)=L.take i++[L.getD i ([],0)]:=by rw[List.take_add_one];simp[List.getD,h]
 rw[this,QD]
theorem rJ(w:World)(B:Nat)(t:TypeId)(k:Nat):w.ownsRow B t k (.slice none 0 0) 0 []:=⟨by simp,.inl ⟨rfl,rfl⟩⟩
theorem eS(w:World)(b o:Nat)(ia:Option Addr)(ic:Nat)(L:List zV)(nm:Bs)(hm:w.cell? ⟨b,o,none⟩=some (.slice ia L.length ic))(hc:bQ w ia (L.flatMap uN))(hf:L.length<=10000) :
 Calls Tryz.prog 86 #[.pointer (some ⟨b,o,none⟩),.string ⟨nm.toArray⟩] w fun e w'=>e=.returned (.int .i64 (zJ (L.map zV.name) nm))/\Below w.heap.size w w':=by
 have HC:=zA hc;clear hc
 go_enter Tryz.func86,Tryz.ntmps86
 go_wp2_with fail
 go_loopw [12] (fun iv wr=>∃(i:Nat),i<=L.length/\iv=.int .i64 i/\Hid (Below w.heap.size w wr)/\Hid (uW nm ((L.map zV.name).drop i) i=zJ (L.map zV.name) nm)) (fun iv _=>L.length-(intOf iv).toNat)
 case atStart=>exact⟨0,tq _,rfl,zA (t9 _ _),zA rfl⟩
 case round =>
  obtain⟨i,hi,rfl,HB,HE⟩:=hrel;have zEF:=HB.out.size;by_cases zE9:i<L.length
  ·have hcr:=HC.out.below HB.out
   obtain⟨g,rfl,q0⟩:=hcr.at ((zY uN 4 (fun _=>rfl) eX L i 0 zE9 (by decide)).trans rfl);have q1:=(hcr.at ((zY uN 4 (fun _=>rfl) eX L i 1 zE9 (by decide)).trans rfl)).elim fun g' h=>(show g=g' by simpa using h.1) ▸ h.2;have q2:=(hcr.at ((zY uN 4 (fun _=>rfl) eX L i 2 zE9 (by decide)).trans rfl)).elim fun g' h=>(show g=g' by simpa using h.1) ▸ h.2;have q3:=(hcr.at ((zY uN 4 (fun _=>rfl) eX L i 3 zE9 (by decide)).trans rfl)).elim fun g' h=>(show g=g' by simpa using h.1) ▸ h.2;rw[mj]at q0;have hE:=HE.out;rw[oQ nm (L.map zV.name) i (by simpa using zE9)]at hE;have zEG:(L.map zV.name).getD i []=zV.name (L.getD i eX):=by simp[List.getD,zE9]
   rw[zEG]at hE;have HE2:=zA hE;have lg:=yO q0;have mg:wr.heap.size≠g:=by omega
   clear HE hE hcr zEG;generalize L.getD i eX=x at *;obtain⟨x0,x1,x2,x3⟩:=x;simp only at q0 q1 q2 q3 HE2;by_cases k1:x0=nm
   ·have HE3:Hid (zJ (L.map zV.name) nm=i):=by have:=HE2.out;rw[tg k1]at this;exact this.symm
    have b1:(x0==nm)=true:=by simpa using k1
    clear HE2 k1;go_wp2_with fail
    go_ret
    exact⟨yN HE3.out.symm,HB.out.alloc zEF _⟩
   ·have HE3:Hid (uW nm ((L.map zV.name).drop (i+1)) (i+1)=zJ (L.map zV.name) nm):=by have:=HE2.out;rw[t7 k1]at this;exact this
    have b1:(x0==nm)=false:=by simpa using k1
    clear HE2 k1;go_wp2_with fail
    go_roundw
    case rel=>exact⟨i+1,by omega,by go_num,zA (HB.out.alloc zEF _),HE3⟩
    case measure=>simp[intOf];omega
  ·have HE3:Hid (zJ (L.map zV.name) nm = -1):=by have:=HE.out;rw[p8 (by simp;omega)]at this;exact this.symm
   clear HE;go_wp2_with fail
   go_ret
   exact⟨yN HE3.out.symm,HB.out⟩
def vy(x:Bs × Nat):List Value:=[.string ⟨x.1.toArray⟩,.int .i64 (x.2:Nat)]
theorem Vn(w:World)(b o:Nat)(ia:Option Addr)(ic:Nat)(L:List (Bs × Nat))(nm:Bs)(hm:w.cell? ⟨b,o+1,none⟩=some (.slice ia L.length ic))(hc:bQ w ia (L.flatMap vy))(hf:L.length<=10000) :
 Calls Tryz.prog 137 #[.pointer (some ⟨b,o,none⟩),.string ⟨nm.toArray⟩] w fun e w'=>e=.returned (.int .i64 (zJ (L.map Prod.fst) nm))/\Below w.heap.size w w':=by
 have HC:=zA hc;clear hc
 go_enter Tryz.func137,Tryz.ntmps137
 go_wp2_with fail
 go_loopw [12] (fun iv wr=>∃(i:Nat),i<=L.length/\iv=.int .i64 i/\Hid (Below w.heap.size w wr)/\Hid (uW nm ((L.map Prod.fst).drop i) i=zJ (L.map Prod.fst) nm)) (fun iv _=>L.length-(intOf iv).toNat)
 case atStart=>exact⟨0,tq _,rfl,zA (t9 _ _),zA rfl⟩
 case round =>
  obtain⟨i,hi,rfl,HB,HE⟩:=hrel;have zEF:=HB.out.size;by_cases zE9:i<L.length
  ·have hcr:=HC.out.below HB.out
   obtain⟨g,rfl,q0⟩:=hcr.at ((zY vy 2 (fun _=>rfl) ([],0) L i 0 zE9 (by decide)).trans rfl);have q1:=(hcr.at ((zY vy 2 (fun _=>rfl) ([],0) L i 1 zE9 (by decide)).trans rfl)).elim fun g' h=>(show g=g' by simpa using h.1) ▸ h.2;rw[mj]at q0;have hE:=HE.out;rw[oQ nm (L.map Prod.fst) i (by simpa using zE9)]at hE;have zEG:(L.map Prod.fst).getD i []=Prod.fst (L.getD i ([],0)):=by simp[List.getD,zE9]
   rw[zEG]at hE;have HE2:=zA hE;have lg:=yO q0;have mg:wr.heap.size≠g:=by omega
   clear HE hE hcr zEG;generalize L.getD i ([],0)=x at *;obtain⟨x0,x1⟩:=x;simp only at q0 q1 HE2;by_cases k1:x0=nm
   ·have HE3:Hid (zJ (L.map Prod.fst) nm=i):=by have:=HE2.out;rw[tg k1]at this;exact this.symm
    have b1:(x0==nm)=true:=by simpa using k1
    clear HE2 k1;go_wp2_with fail
    go_ret
    exact⟨yN HE3.out.symm,HB.out.alloc zEF _⟩
   ·have HE3:Hid (uW nm ((L.map Prod.fst).drop (i+1)) (i+1)=zJ (L.map Prod.fst) nm):=by have:=HE2.out;rw[t7 k1]at this;exact this
    have b1:(x0==nm)=false:=by simpa using k1
    clear HE2 k1;go_wp2_with fail
    go_roundw
    case rel=>exact⟨i+1,by omega,by go_num,zA (HB.out.alloc zEF _),HE3⟩
    case measure=>simp[intOf];omega
  ·have HE3:Hid (zJ (L.map Prod.fst) nm = -1):=by have:=HE.out;rw[p8 (by simp;omega)]at this;exact this.symm
   clear HE;go_wp2_with fail
   go_ret
   exact⟨yN HE3.out.symm,HB.out⟩
end Go.Proofs.YtnbpdffdnphbeabGreatDoor
