import Derived.Test.YtnbpdffdnphbeaaGreatDoorRgLinks
import Derived.Test.YtnbpdffdnphbeaaGreatDoorStCheck
set_option maxHeartbeats 1000000
namespace Go.Proofs.YtnbpdffdnphbeaaGreatDoor
theorem zFM{x:zH}:∀ {ls:List zH} {us:List zJ},yY ls us->x∈ls->∃u,LT x u:=by
 intro ls
 induction ls with
 | nil=>intro us _ h;simp at h
 | cons y r ih =>
   intro us hA h
   cases us with
   | nil=>exact absurd hA id
   | cons u us =>
     rcases List.mem_cons.1 h with rfl|h
     ·exact⟨u,hA.1⟩
     ·exact ih hA.2 h
theorem uq{ls:List zH}{us:List zJ}(hA:yY ls us)(b:Nat)(hb:b<(zI ls).length):(zI ls).getD b []≠[]:=by
 obtain⟨-,hmem,-⟩:=dU ls [] List.nodup_nil;intro e;have h1:(zI ls).getD b []∈zI ls:=by simp[List.getD,hb]
 rw[e]at h1;have h2:=(hmem []).1 h1;rcases h2 with h2|h2
 ·simp at h2
 ·obtain⟨x,hx,hc⟩:=List.any_eq_true.1 h2
  unfold Qr at hc;rw[Bool.and_eq_true,decide_eq_true_iff,decide_eq_true_iff]at hc;obtain⟨u,hu⟩:=zFM hA hx;obtain⟨w,hw⟩:=hu.rule (hu.k3.1 hc.1);exact hw.ne hc.2
theorem Gt{ls:List zH}{us:List zJ}(hA:yY ls us){a b:Nat}(h:Qs (kE (zI ls) ls gZ) a b):a<(zI ls).length/\b<(zI ls).length/\nO us false ((zI ls).getD a []) ((zI ls).getD b [])=true:=by
 obtain⟨ha,hb,hg⟩:=h;obtain⟨hn,-,-⟩:=dU ls [] List.nodup_nil;rw[Xt _ _ ha hb _ xP,ZA,Bool.false_or]at hg
 have e1:ls.any (qx (zI ls) a b)=(decide (a<(zI ls).length)&&(decide (b<(zI ls).length)&&ls.any (zF3 ((zI ls).getD a []) ((zI ls).getD b [])))):=by
  rw[<-gU,<-gU];congr 1
  funext x
  exact zCV hn (uq hA b) x
 rw[e1,Bool.and_eq_true,Bool.and_eq_true,decide_eq_true_iff,decide_eq_true_iff]at hg;refine⟨hg.1,hg.2.1,?_⟩;unfold nO bK;simp only;rw[<-mE hA (fun x u hx=>(CE hx _ _).symm)];exact hg.2.2
theorem Bd{names:List Bs}(hn:names.Nodup){a b:Nat}(ha:a<names.length)(hb:b<names.length)(e:names.getD a []=names.getD b []):a=b:=by
 have h1:=(sY hn (names.getD b []) a).2 ⟨ha,e⟩;have h2:=(sY hn (names.getD b []) b).2 ⟨hb,rfl⟩;omega
open Go.RowKit
def Jc(ls:List zH):List (Bs × Nat):=(List.range (zI ls).length).map fun i=>((zI ls).getD i [],fU (kE (zI ls) ls gZ) i)
theorem xb(S:List Nat)(hd:List Bs):∀i acc,i+hd.length<=8->eD S hd i acc=acc++(List.range hd.length).map (fun j=>(hd.getD j [],S.getD (i+j) 0)):=by
 induction hd with
 | nil=>intro i acc _;simp[eD]
 | cons n r ih =>
   intro i acc h;simp only[List.length_cons]at h;rw[eD,if_pos (by omega),ih (i+1) _ (by omega),List.length_cons,List.range_succ_eq_map,List.map_cons,List.map_map,List.append_assoc];congr 1
   simp only[List.singleton_append,List.getD_cons_zero,Nat.add_zero,List.cons.injEq,true_and];refine List.map_congr_left (fun j _=>?_);simp only[Function.comp,Nat.succ_eq_add_one,List.getD_cons_succ];rw[show i+1+j=i+(j+1) by omega]
theorem Xy(ls:List zH)(h8:(zI ls).length<=8)(hr:kY (kE (zI ls) ls gZ)=false):vR ls=Jc ls:=by
 unfold vR Jc;rw[xb _ _ 0 [] (by omega),List.nil_append];refine List.map_congr_left (fun j hj=>?_);have hj8:j<8:=by have:=List.mem_range.1 hj;omega
 rw[Nat.zero_add,Bz (by rw[nT];exact xP) hr j hj8]
theorem FT(ls:List zH):(Jc ls).length=(zI ls).length:=by simp[Jc]
theorem JG(L:List (Bs × Nat)):∀i,i<L.length->(Yq L)[i*2]? = some (.string ⟨(L.getD i ([],0)).1.toArray⟩)/\(Yq L)[i*2+1]? = some (.int .i64 (((L.getD i ([],0)).2:Nat):Int)):=by
 induction L with
 | nil=>intro i h;simp at h
 | cons x r ih =>
   intro i h;have e:Yq (x::r)=.string ⟨x.1.toArray⟩::.int .i64 (x.2:Nat)::Yq r:=by simp[Yq]
   rw[e]
   cases i with
   | zero=>simp[List.getD]
   | succ i =>
     have:=ih i (by simpa using h);rw[show (i+1)*2=i*2+1+1 by omega];simp only[List.getElem?_cons_succ,List.getD_cons_succ];exact this
structure PrV(w:World)(a:Option Addr)(L:List (Bs × Nat)):Prop where
 blk:0<L.length->∃g,a=some ⟨g,0,none⟩/\∀i,i<L.length->w.cell? ⟨g,i*2,none⟩=some (.string ⟨(L.getD i ([],0)).1.toArray⟩)/\w.cell? ⟨g,i*2+1,none⟩=some (.int .i64 (((L.getD i ([],0)).2:Nat):Int))
 few:L.length<=10000
theorem PrV.keepB{w w':World}{B:Nat}{a:Option Addr}{L:List (Bs × Nat)}(h:PrV w a L)(hb:Below B w w')(hB:w.heap.size<=B):PrV w' a L :=
 ⟨fun h0=>let ⟨g,e,p⟩:=h.blk h0;⟨g,e,fun j hj=>⟨by rw[hb.cell (p:=⟨g,j*2,none⟩) (Nat.lt_of_lt_of_le (xJ (p j hj).1) hB)];exact(p j hj).1,by rw[hb.cell (p:=⟨g,j*2+1,none⟩) (Nat.lt_of_lt_of_le (xJ (p j hj).1) hB)];exact(p j hj).2⟩⟩,h.few⟩
theorem zCC(l:Bs)(w:World)(k p:Int)(hC:Calls Tryz.prog 39 #[.string ⟨l.toArray⟩] w fun e w'=>e=.returned (.tuple #[.int .i64 k,.int .i64 p])/\Below w.heap.size w w') :
 Calls Tryz.prog 27 #[.string ⟨l.toArray⟩,.bool false] w fun e w'=>e=.returned (.int .i64 k)/\Below w.heap.size w w':=by
 have HC:=zA hC;clear hC;by_cases hk:k=0
 ·subst hk
  go_enter Tryz.func27,Tryz.ntmps27
  go_wp2_with fail
  refine HC.out.mono ?_;rintro e w1 ⟨rfl,hb⟩;have HB:=zA hb;clear hb;go_wp2_with fail
  go_ret
  exact⟨rfl,HB.out⟩
 ·have b0:(k != 0)=true:=by simpa using hk
  clear hk
  go_enter Tryz.func27,Tryz.ntmps27
  go_wp2_with fail
  refine HC.out.mono ?_;rintro e w1 ⟨rfl,hb⟩;have HB:=zA hb;clear hb;go_wp2_with fail
  go_ret
  exact⟨rfl,HB.out⟩
structure Ug(w:World)(b:Nat)(L:List (Bs × Nat)):Prop where
 on:w.cell? ⟨b,0,none⟩=some (.bool true)
 lev:∃a c,w.cell? ⟨b,2,none⟩=some (.slice a L.length c)/\PrV w a L
theorem Ug.below{w w':World}{b:Nat}{L:List (Bs × Nat)}(h:Ug w b L)(hb:Below w.heap.size w w'):Ug w' b L:=by
 obtain⟨a,c,h1,h2⟩:=h.lev;exact⟨by rw[hb.cell (p:=⟨b,0,none⟩) (xJ h.on)];exact h.on,a,c,by rw[hb.cell (p:=⟨b,2,none⟩) (xJ h.on)];exact h1,h2.keepB hb (Nat.le_refl _)⟩
def LoadIs(l:Bs)(w w':World)(e:Ending):Prop:=∃pv,e=.returned (.tuple #[pv,.int .i64 (bB l).1])/\Below w.heap.size w w'/\((bB l).1≠0->pv=.pointer none)/\((bB l).1=0->∃b,pv=.pointer (some ⟨b,0,none⟩)/\Ug w' b (vR (xS l).1))
theorem yn(k:Int)(w:World):Calls Tryz.prog 16 #[.int .i64 k] w fun e w'=>e=.returned (.int .i64 k)/\w'=w:=by
 go_enter Tryz.func16,Tryz.ntmps16
 go_wp2_with fail
 go_ret
 exact⟨rfl,rfl⟩
end Go.Proofs.YtnbpdffdnphbeaaGreatDoor
