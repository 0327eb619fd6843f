import Derived.Test.YtnbpdffdnphbeaaGreatDoorAmongs
import Derived.Deep.RegionHeld3
import Derived.Deep.DrawnRows
set_option maxHeartbeats 1000000
namespace Go.Proofs.YtnbpdffdnphbeaaGreatDoor
open Go.RowKit
variable{p:Addr}{f:Bool}{cap g a R B:Nat}{w' w:World}
structure PT where
 k:Int
 s:Bs
 v:Int
 p:Nat
variable{P:List PT}
def pz:PT:=⟨0,[],0,0⟩
def yW(P:List PT)(i:Nat):PT:=P.getD i pz
structure zB(B R:Nat)(w w':World):Prop where
 os:w'.os=w.os
 tape:w'.tape=w.tape
 output:w'.output=w.output
 size:w.heap.size<=w'.heap.size
 block:∀k,k<B->k≠R->w'.heap[k]? = w.heap[k]?
theorem zB.refl(B R:Nat)(w:World):zB B R w w:=⟨rfl,rfl,rfl,t9 _,fun _ _ _=>rfl⟩
theorem zB.trans{a b c:World}(h:zB B R a b)(k:zB B R b c):zB B R a c :=
 ⟨k.os.trans h.os,k.tape.trans h.tape,k.output.trans h.output,tx h.size k.size,fun i hi hr=>(k.block i hi hr).trans (h.block i hi hr)⟩
theorem zB.mono{B':Nat}(h:zB B R w w')(hB:B'<=B):zB B' R w w':=⟨h.os,h.tape,h.output,h.size,fun k hk hr=>h.block k (ti hk hB) hr⟩
theorem zB.of_below(h:Below B w w'):zB B R w w':=⟨h.os,h.tape,h.output,h.size,fun k hk _=>h.block k hk⟩
theorem zB.drew{a:World}(h:zB B R a w):zB B R a w.drew:=⟨h.os,h.tape,h.output,h.size,h.block⟩
theorem zB.alloc{a:World}(h:zB B R a w)(hB:B<=w.heap.size)(o:Obj):zB B R a (w.alloc o) :=
 h.trans ⟨rfl,rfl,rfl,by simp,fun k hk _=>mq _ _ _ (by omega)⟩
theorem zB.setCell{a:World}(h:zB B R a w)(hp:B<=p.block\/p.block=R)(u:Value):zB B R a (w.setCell p u) :=
 h.trans ⟨rfl,rfl,rfl,by simp[World.setCell],fun k hk hr=>lq _ _ _ _ (by omega)⟩
theorem zB.cell(h:zB B R w w')(hp:p.block<B)(hr:p.block≠R):w'.cell? p=w.cell? p:=l7 (w:=w) (h.block p.block hp hr)
theorem zB.frozen(h:zB B R w w')(hp:p.block<B)(hr:p.block≠R):w'.frozen? p=w.frozen? p:=dl (w:=w) (h.block p.block hp hr)
def yx(w:World)(g:Nat)(P:List PT):Prop:=∀i,i<P.length ->
 w.cell? ⟨g,i*4,none⟩=some (.int .i64 (yW P i).k)/\w.cell? ⟨g,i*4+1,none⟩=some (.string ⟨(yW P i).s.toArray⟩)/\w.cell? ⟨g,i*4+2,none⟩=some (.int .i64 (yW P i).v)/\w.cell? ⟨g,i*4+3,none⟩=some (.int .i64 (yW P i).p)
def tW(g cap:Nat)(P:List PT)(a:Nat)(f:Bool):Obj:=.cells #[.slice (some ⟨g,0,none⟩) P.length cap,.int .i64 a,.bool f] 228 (0,0)
structure yO(w:World)(R g cap:Nat)(P:List PT)(a:Nat)(f:Bool):Prop where
 blk:w.heap[R]? = some (tW g cap P a f)
 tok:yx w g P
 gR:g≠R
 glt:g<w.heap.size
 at':a<P.length
 cap1:P.length<=cap
 cap2:cap<=maxLen
 many:P.length<=4001
 endk:∀i,i<P.length->(yW P i).k≠0->i+1<P.length
theorem yO.rlt(h:yO w R g cap P a f):R<w.heap.size:=by
 rcases po R w.heap.size with h1|h1
 ·exact h1
 ·have:=h.blk;rw[pj h1]at this;cases this
theorem yx.keeps(h:yx w g P)(hk:zB B R w w')(hg:g<B)(hr:g≠R):yx w' g P:=by
 intro i hi;obtain⟨a,b,c,d⟩:=h i hi;exact⟨by rw[hk.cell (p:=⟨g,_,none⟩) hg hr];exact a,by rw[hk.cell (p:=⟨g,_,none⟩) hg hr];exact b,by rw[hk.cell (p:=⟨g,_,none⟩) hg hr];exact c,by rw[hk.cell (p:=⟨g,_,none⟩) hg hr];exact d⟩
theorem yO.keeps{a':Nat}{f':Bool}(h:yO w R g cap P a f)(hb:w'.heap[R]? = some (tW g cap P a' f'))(hk:zB w.heap.size R w w')(ha:a'<P.length):yO w' R g cap P a' f' :=
 ⟨hb,h.tok.keeps hk h.glt h.gR,h.gR,ti h.glt hk.size,ha,h.cap1,h.cap2,h.many,h.endk⟩
theorem yO.cells(h:yO w R g cap P a f) :
 w.cell? ⟨R,0,none⟩=some (.slice (some ⟨g,0,none⟩) P.length cap)/\w.cell? ⟨R,1,none⟩=some (.int .i64 a)/\w.cell? ⟨R,2,none⟩=some (.bool f):=by
 have hb:=h.blk;unfold tW at hb;refine⟨?_,?_,?_⟩ <;> simp[World.cell?,hb]
theorem yO.notFrozen(h:yO w R g cap P a f)(o:Nat):w.frozen? ⟨R,o,none⟩=false:=by
 have hb:=h.blk;unfold tW at hb;simp[World.frozen?,hb]
theorem uv(h:w.heap[R]? = some (tW g cap P a f)):(w.setCell ⟨R,1,none⟩ (.int .i64 ((a:Int)+1))).heap[R]? = some (tW g cap P (a+1) f):=by
 unfold tW at h ⊢;rw[m6 w R 1 _ _ _ h];simp
theorem Dz(h:w.heap[R]? = some (tW g cap P a f)):(w.setCell ⟨R,2,none⟩ (.bool true)).heap[R]? = some (tW g cap P a true):=by
 unfold tW at h ⊢;rw[m6 w R 2 _ _ _ h];simp
theorem bU{o x:Obj}(hR:R<w.heap.size)(h:w.heap[R]? = some x):(w.alloc o).heap[R]? = some x:=by
 rw[mq _ _ _ hR];exact h
theorem zL(w:World)(a:Addr)(v:Value):(w.setCell a v).heap.size=w.heap.size:=by simp[World.setCell]
theorem Kl(h:w.heap[R]? = some (tW g cap P a f))(hR:R<w.heap.size)(x:Obj):((w.setCell ⟨R,1,none⟩ (.int .i64 ((a:Int)+1))).alloc x).drew.heap[R]? = some (tW g cap P (a+1) f) :=
 bU (w:=w.setCell ⟨R,1,none⟩ (.int .i64 ((a:Int)+1))) (by rw[zL];exact hR) (uv h)
theorem oY(w:World)(R o:Nat)(v:Value)(x:Obj):zB w.heap.size R w ((w.setCell ⟨R,o,none⟩ v).alloc x).drew :=
 (((zB.refl _ _ _).setCell (p:=⟨R,o,none⟩) (.inr rfl) v).alloc (by rw[zL];exact t9 _) x).drew
def JK(b:Bool)(a:Nat):Nat:=match b with|true=>a+1|false=>a
def bJ(P:List PT)(t:Bs)(a:Nat)(f:Bool):Bool := !f&&decide ((yW P a).k=4)&&decide ((yW P a).s=t)
theorem zCS(w:World)(R g cap:Nat)(P:List PT)(a:Nat)(f:Bool)(h:yO w R g cap P a f)(kd:Int) :
 Calls Tryz.prog 101 #[.pointer (some ⟨R,0,none⟩),.int .i64 kd] w fun e w'=>e=.returned (.bool ((yW P a).k==kd))/\yO w' R g cap P a f/\zB w.heap.size R w w':=by
 obtain⟨c0,c1,_⟩:=h.cells;obtain⟨t0,_,_,_⟩:=h.tok a h.at';have i1:(0:Int)<=(a:Int):=by omega
 have i2:(a:Int)<(P.length:Int):=by have:=h.at';omega
 have HC:=zA h;clear h
 go_enter Tryz.func101,Tryz.ntmps101
 go_wp2_with fail
 go_region_held3 (fun w'=>w'.cell? ⟨R,0,none⟩=some (.slice (some ⟨g,0,none⟩) P.length cap)/\w'.cell? ⟨R,1,none⟩=some (.int .i64 a)/\w'.cell? ⟨g,a*4,none⟩=some (.int .i64 (yW P a).k)) (go_keep) (fail)
 go_wp2_with fail
 go_ret
 exact⟨rfl,HC.out.keeps HC.out.blk (zB.refl _ _ _).drew HC.out.at',(zB.refl _ _ _).drew⟩
attribute [local go_sem ↓] Go.wp_at_zero Go.wp_at_succ
theorem dB{o x:Obj}(hR:R<w.heap.size)(h:w.heap[R]? = some x):(w.alloc o).drew.heap[R]? = some x:=by
 show (w.alloc o).heap[R]? = _;rw[mq _ _ _ hR];exact h
theorem Du(w:World)(R g cap:Nat)(P:List PT)(a:Nat)(f:Bool)(h:yO w R g cap P a f)(t:Bs) :
 Calls Tryz.prog 148 #[.pointer (some ⟨R,0,none⟩),.string ⟨t.toArray⟩] w fun e w'=>e=.returned (.bool (bJ P t a f))/\yO w' R g cap P (JK (bJ P t a f) a) f/\zB w.heap.size R w w':=by
 obtain⟨c0,c1,c2⟩:=h.cells;obtain⟨t0,t1,t2,t3⟩:=h.tok a h.at';have i1:(0:Int)<=(a:Int):=by omega
 have i2:(a:Int)<(P.length:Int):=by have:=h.at';omega
 have hm:=h.many;have hR:=h.rlt;have hg:=h.glt;have hfz:=h.notFrozen;have hek:=h.endk a h.at';have n1:=World.new_ne w ⟨R,0,none⟩ c0;have n2:=World.new_ne w ⟨g,a*4,none⟩ t0;have HC:=zA h;have HS:Hid (bJ P t a f=(!f&&decide ((yW P a).k=4)&&decide ((yW P a).s=t))):=rfl;generalize yW P a=x at *;obtain⟨xk,xs,xv,xp⟩:=x;simp only at t0 t1 t2 t3 HS hek;generalize bJ P t a f=b at *;clear h
 cases f with
 | true =>
   have HB:Hid (b=false):=by unfold Hid;rw[HS.out];rfl
   clear HS hek
   go_enter Tryz.func148,Tryz.ntmps148
   go_wp2_with fail
   go_region_held3 (fun w'=>w'.cell? ⟨R,0,none⟩=some (.slice (some ⟨g,0,none⟩) P.length cap)/\w'.cell? ⟨R,1,none⟩=some (.int .i64 a)/\w'.cell? ⟨g,a*4,none⟩=some (.int .i64 xk)/\w'.cell? ⟨g,a*4+1,none⟩=some (.string ⟨xs.toArray⟩)/\w'.cell? ⟨g,a*4+2,none⟩=some (.int .i64 xv)/\w'.cell? ⟨g,a*4+3,none⟩=some (.int .i64 xp)) (go_keep) (fail)
   go_wp2_with fail
   go_ret
   refine⟨zE HB.out.symm,?_,?_⟩
   ·rw[HB.out]
    exact HC.out.keeps (dB hR HC.out.blk) ((zB.refl _ _ _).alloc (t9 _) _).drew HC.out.at'
   ·exact((zB.refl _ _ _).alloc (t9 _) _).drew
 | false =>
   by_cases hk:xk=4
   ·have k1:(xk != 4)=false:=by simp[hk]
    by_cases hx:xs=t
    ·have HB:Hid (b=true):=by unfold Hid;rw[HS.out,hk,hx];simp
     have e1:(!xs==t)=false:=by simp[hx]
     have hek2:=hek (by rw[hk];decide);clear HS hek hk hx
     go_enter Tryz.func148,Tryz.ntmps148
     go_wp2_with fail
     go_region_held3 (fun w'=>w'.cell? ⟨R,0,none⟩=some (.slice (some ⟨g,0,none⟩) P.length cap)/\w'.cell? ⟨R,1,none⟩=some (.int .i64 a)/\w'.cell? ⟨g,a*4,none⟩=some (.int .i64 xk)/\w'.cell? ⟨g,a*4+1,none⟩=some (.string ⟨xs.toArray⟩)/\w'.cell? ⟨g,a*4+2,none⟩=some (.int .i64 xv)/\w'.cell? ⟨g,a*4+3,none⟩=some (.int .i64 xp)) (go_keep) (fail)
     go_wp2_with fail
     go_ret
     refine⟨zE HB.out.symm,?_,?_⟩
     ·rw[HB.out]
      exact HC.out.keeps (Kl HC.out.blk hR _) (oY _ _ _ _ _) hek2
     ·exact oY _ _ _ _ _
    ·have HB:Hid (b=false):=by unfold Hid;rw[HS.out];simp[hx]
     have e1:(!xs==t)=true:=by simp[hx]
     clear HS hek hk hx
     go_enter Tryz.func148,Tryz.ntmps148
     go_wp2_with fail
     go_region_held3 (fun w'=>w'.cell? ⟨R,0,none⟩=some (.slice (some ⟨g,0,none⟩) P.length cap)/\w'.cell? ⟨R,1,none⟩=some (.int .i64 a)/\w'.cell? ⟨g,a*4,none⟩=some (.int .i64 xk)/\w'.cell? ⟨g,a*4+1,none⟩=some (.string ⟨xs.toArray⟩)/\w'.cell? ⟨g,a*4+2,none⟩=some (.int .i64 xv)/\w'.cell? ⟨g,a*4+3,none⟩=some (.int .i64 xp)) (go_keep) (fail)
     go_wp2_with fail
     go_ret
     refine⟨zE HB.out.symm,?_,?_⟩
     ·rw[HB.out]
      exact HC.out.keeps (dB hR HC.out.blk) ((zB.refl _ _ _).alloc (t9 _) _).drew HC.out.at'
     ·exact((zB.refl _ _ _).alloc (t9 _) _).drew
   ·have HB:Hid (b=false):=by unfold Hid;rw[HS.out];simp[hk]
    have k1:(xk != 4)=true:=by simp[hk]
    clear HS hek hk
    go_enter Tryz.func148,Tryz.ntmps148
    go_wp2_with fail
    go_region_held3 (fun w'=>w'.cell? ⟨R,0,none⟩=some (.slice (some ⟨g,0,none⟩) P.length cap)/\w'.cell? ⟨R,1,none⟩=some (.int .i64 a)/\w'.cell? ⟨g,a*4,none⟩=some (.int .i64 xk)/\w'.cell? ⟨g,a*4+1,none⟩=some (.string ⟨xs.toArray⟩)/\w'.cell? ⟨g,a*4+2,none⟩=some (.int .i64 xv)/\w'.cell? ⟨g,a*4+3,none⟩=some (.int .i64 xp)) (go_keep) (fail)
    go_wp2_with fail
    go_ret
    refine⟨zE HB.out.symm,?_,?_⟩
    ·rw[HB.out]
     exact HC.out.keeps (dB hR HC.out.blk) ((zB.refl _ _ _).alloc (t9 _) _).drew HC.out.at'
    ·exact((zB.refl _ _ _).alloc (t9 _) _).drew
attribute [local go_sem ↓] Go.wp_at_zero Go.wp_at_succ
theorem zC5{P:List PT}{t:Bs}{a:Nat}{f:Bool}(h:bJ P t a f=true):f=false:=by
 unfold bJ at h;cases f
 ·rfl
 ·simp at h
theorem yO.fails(h:yO w R g cap P a f)(hw:w'=w.setCell ⟨R,2,none⟩ (.bool true)):yO w' R g cap P a true:=by
 subst hw;exact h.keeps (Dz h.blk) ((zB.refl _ _ _).setCell (p:=⟨R,2,none⟩) (.inr rfl) _) h.at'
theorem zBQ(w:World)(R g cap:Nat)(P:List PT)(a:Nat)(f:Bool)(h:yO w R g cap P a f)(t:Bs) :
 Calls Tryz.prog 152 #[.pointer (some ⟨R,0,none⟩),.string ⟨t.toArray⟩] w fun e w'=>e=.returned (.tuple #[])/\yO w' R g cap P (JK (bJ P t a f) a) (!bJ P t a f)/\zB w.heap.size R w w':=by
 have HS:=zA (Du w R g cap P a f h t);have hsf := @zC5 P t a f;generalize bJ P t a f=b at *;clear h
 cases b with
 | true =>
   have HF:=zA (hsf rfl);clear hsf
   go_enter Tryz.func152,Tryz.ntmps152
   go_wp2_with fail
   refine HS.out.mono ?_;rintro e w1 ⟨rfl,hc,hk⟩;have HC:=zA hc;have HK:=zA hk;clear hc hk;go_wp2_with fail
   go_end0
   have hc:=HC.out;rw[HF.out]at hc;exact⟨rfl,hc,HK.out⟩
 | false =>
   clear hsf
   go_enter Tryz.func152,Tryz.ntmps152
   go_wp2_with fail
   refine HS.out.mono ?_;rintro e w1 ⟨rfl,hc,hk⟩;have c2:=hc.cells.2.2;have hfz:=hc.notFrozen 2;have HC:=zA hc;have HK:=zA hk;clear hc hk;go_wp2_with fail
   go_end0
   exact⟨rfl,HC.out.fails rfl,HK.out.setCell (p:=⟨R,2,none⟩) (.inr rfl) _⟩
def kP(P:List PT)(kd:Int)(a:Nat)(f:Bool):Bool := !f&&decide ((yW P a).k=kd)
def tk(b:Bool)(x:PT):PT:=match b with|true=>x|false=>pz
def zCE(x:PT):Value:=.agg #[.int .i64 x.k,.string ⟨x.s.toArray⟩,.int .i64 x.v,.int .i64 x.p]
theorem kF(w:World)(R o:Nat)(v:Value)(x y:Obj):zB w.heap.size R w (((w.setCell ⟨R,o,none⟩ v).alloc x).alloc y).drew :=
 ((((zB.refl _ _ _).setCell (p:=⟨R,o,none⟩) (.inr rfl) v).alloc (by rw[zL];exact t9 _) x).alloc (by simp) y).drew
theorem rQ(h:w.heap[R]? = some (tW g cap P a f))(hR:R<w.heap.size)(x y:Obj):(((w.setCell ⟨R,2,none⟩ (.bool true)).alloc x).alloc y).drew.heap[R]? = some (tW g cap P a true) :=
 bU (w:=(w.setCell ⟨R,2,none⟩ (.bool true)).alloc x) (by simp;omega) (bU (w:=w.setCell ⟨R,2,none⟩ (.bool true)) (by rw[zL];exact hR) (Dz h))
theorem QE(h:w.heap[R]? = some (tW g cap P a f))(hR:R<w.heap.size)(x y:Obj):(((w.setCell ⟨R,1,none⟩ (.int .i64 ((a:Int)+1))).alloc x).alloc y).drew.heap[R]? = some (tW g cap P (a+1) f) :=
 bU (w:=(w.setCell ⟨R,1,none⟩ (.int .i64 ((a:Int)+1))).alloc x) (by simp;omega) (bU (w:=w.setCell ⟨R,1,none⟩ (.int .i64 ((a:Int)+1))) (by rw[zL];exact hR) (uv h))
theorem Dr(w:World)(R g cap:Nat)(P:List PT)(a:Nat)(f:Bool)(h:yO w R g cap P a f)(kd:Int)(hkd:kd≠0) :
 Calls Tryz.prog 246 #[.pointer (some ⟨R,0,none⟩),.int .i64 kd] w fun e w'=>e=.returned (zCE (tk (kP P kd a f) (yW P a)))/\yO w' R g cap P (JK (kP P kd a f) a) (!kP P kd a f)/\zB w.heap.size R w w':=by
 obtain⟨c0,c1,c2⟩:=h.cells;obtain⟨t0,t1,t2,t3⟩:=h.tok a h.at';have i1:(0:Int)<=(a:Int):=by omega
 have i2:(a:Int)<(P.length:Int):=by have:=h.at';omega
 have hm:=h.many;have hR:=h.rlt;have hg:=h.glt;have hfz:=h.notFrozen;have hek:=h.endk a h.at';have n1:=World.new_ne w ⟨R,0,none⟩ c0;have n2:=World.new_ne w ⟨g,a*4,none⟩ t0;have HC:=zA h;have HS:Hid (kP P kd a f=(!f&&decide ((yW P a).k=kd))):=rfl;generalize yW P a=x at *;obtain⟨xk,xs,xv,xp⟩:=x;simp only at t0 t1 t2 t3 HS hek;generalize kP P kd a f=b at *;clear h
 cases f with
 | true =>
   have HB:Hid (b=false):=by unfold Hid;rw[HS.out];rfl
   clear HS hek hkd
   go_enter Tryz.func246,Tryz.ntmps246
   go_wp2_with fail
   go_region_held3 (fun w'=>w'.cell? ⟨R,0,none⟩=some (.slice (some ⟨g,0,none⟩) P.length cap)/\w'.cell? ⟨R,1,none⟩=some (.int .i64 a)/\w'.cell? ⟨g,a*4,none⟩=some (.int .i64 xk)/\w'.cell? ⟨g,a*4+1,none⟩=some (.string ⟨xs.toArray⟩)/\w'.cell? ⟨g,a*4+2,none⟩=some (.int .i64 xv)/\w'.cell? ⟨g,a*4+3,none⟩=some (.int .i64 xp)) (go_keep) (fail)
   go_wp2_with fail
   refine ph (v:=zCE pz) (by simp[results,Tryz.results246,go_sem,zCE,pz]) rfl ⟨by rw[HB.out];rfl,?_,kF _ _ _ _ _ _⟩;rw[HB.out];exact HC.out.keeps (rQ HC.out.blk hR _ _) (kF _ _ _ _ _ _) (HC.out.at')
 | false =>
   by_cases hx:xk=kd
   ·have HB:Hid (b=true):=by unfold Hid;rw[HS.out,hx];simp
    have hek2:=hek (by rw[hx];exact hkd);have e1:(xk != kd)=false:=by simp[hx]
    clear HS hek hkd hx
    go_enter Tryz.func246,Tryz.ntmps246
    go_wp2_with fail
    go_region_held3 (fun w'=>w'.cell? ⟨R,0,none⟩=some (.slice (some ⟨g,0,none⟩) P.length cap)/\w'.cell? ⟨R,1,none⟩=some (.int .i64 a)/\w'.cell? ⟨g,a*4,none⟩=some (.int .i64 xk)/\w'.cell? ⟨g,a*4+1,none⟩=some (.string ⟨xs.toArray⟩)/\w'.cell? ⟨g,a*4+2,none⟩=some (.int .i64 xv)/\w'.cell? ⟨g,a*4+3,none⟩=some (.int .i64 xp)) (go_keep) (fail)
    go_wp2_with fail
    refine ph (v:=zCE ⟨xk,xs,xv,xp⟩) (by simp[results,Tryz.results246,go_sem,zCE]) rfl ⟨by rw[HB.out];rfl,?_,kF _ _ _ _ _ _⟩;rw[HB.out];exact HC.out.keeps (QE HC.out.blk hR _ _) (kF _ _ _ _ _ _) hek2
   ·have HB:Hid (b=false):=by unfold Hid;rw[HS.out];simp[hx]
    have e1:(xk != kd)=true:=by simp[hx]
    clear HS hek hkd hx
    go_enter Tryz.func246,Tryz.ntmps246
    go_wp2_with fail
    go_region_held3 (fun w'=>w'.cell? ⟨R,0,none⟩=some (.slice (some ⟨g,0,none⟩) P.length cap)/\w'.cell? ⟨R,1,none⟩=some (.int .i64 a)/\w'.cell? ⟨g,a*4,none⟩=some (.int .i64 xk)/\w'.cell? ⟨g,a*4+1,none⟩=some (.string ⟨xs.toArray⟩)/\w'.cell? ⟨g,a*4+2,none⟩=some (.int .i64 xv)/\w'.cell? ⟨g,a*4+3,none⟩=some (.int .i64 xp)) (go_keep) (fail)
    go_wp2_with fail
    refine ph (v:=zCE pz) (by simp[results,Tryz.results246,go_sem,zCE,pz]) rfl ⟨by rw[HB.out];rfl,?_,kF _ _ _ _ _ _⟩;rw[HB.out];exact HC.out.keeps (rQ HC.out.blk hR _ _) (kF _ _ _ _ _ _) (HC.out.at')
theorem zCV(w:World)(R g cap:Nat)(P:List PT)(a:Nat)(f:Bool)(h:yO w R g cap P a f) :
 Calls Tryz.prog 211 #[.pointer (some ⟨R,0,none⟩)] w fun e w'=>e=.returned (.string ⟨(tk (kP P 2 a f) (yW P a)).s.toArray⟩)/\yO w' R g cap P (JK (kP P 2 a f) a) (!kP P 2 a f)/\zB w.heap.size R w w':=by
 have HS:=zA (Dr w R g cap P a f h 2 (by decide));generalize tk (kP P 2 a f) (yW P a)=x at *;obtain⟨xk,xs,xv,xp⟩:=x;simp only[zCE]at HS;generalize kP P 2 a f=b at *;clear h;have hfd:∀w:World,(Instr.field 237 (.agg #[.int .i64 xk,.string ⟨xs.toArray⟩,.int .i64 xv,.int .i64 xp]) 1).run Tryz.prog w=.ok (.string ⟨xs.toArray⟩) w:=fun _=>by kernel_rfl
 go_enter Tryz.func211,Tryz.ntmps211
 go_wp2_with fail
 refine HS.out.mono ?_;rintro e w1 ⟨rfl,hc,hk⟩;have HC:=zA hc;have HK:=zA hk;clear hc hk;go_wp2_with fail
 go_ret
 exact⟨rfl,HC.out,HK.out⟩
theorem Gm(w:World)(R g cap:Nat)(P:List PT)(a:Nat)(f:Bool)(h:yO w R g cap P a f) :
 Calls Tryz.prog 212 #[.pointer (some ⟨R,0,none⟩)] w fun e w'=>e=.returned (.int .i64 (tk (kP P 3 a f) (yW P a)).v)/\yO w' R g cap P (JK (kP P 3 a f) a) (!kP P 3 a f)/\zB w.heap.size R w w':=by
 have HS:=zA (Dr w R g cap P a f h 3 (by decide));generalize tk (kP P 3 a f) (yW P a)=x at *;obtain⟨xk,xs,xv,xp⟩:=x;simp only[zCE]at HS;generalize kP P 3 a f=b at *;clear h;have hfd:∀w:World,(Instr.field 237 (.agg #[.int .i64 xk,.string ⟨xs.toArray⟩,.int .i64 xv,.int .i64 xp]) 2).run Tryz.prog w=.ok (.int .i64 xv) w:=fun _=>by kernel_rfl
 go_enter Tryz.func212,Tryz.ntmps212
 go_wp2_with fail
 refine HS.out.mono ?_;rintro e w1 ⟨rfl,hc,hk⟩;have HC:=zA hc;have HK:=zA hk;clear hc hk;go_wp2_with fail
 go_ret
 exact⟨rfl,HC.out,HK.out⟩
end Go.Proofs.YtnbpdffdnphbeaaGreatDoor
