import Derived.Test.YtnbpdffdnphbeabGreatDoorSplWalk
import Derived.Test.YtnbpdffdnphbeabGreatDoorRows
import Derived.LaidMore
import Derived.Stop.Joined
import Derived.Stop.LaidErr
import Derived.Lib.LaidTab
set_option maxRecDepth 100000
namespace Go.Proofs.YtnbpdffdnphbeabGreatDoor
open Go.ChangeShapes Go.WideShapes Go.ChangeAt Go.WideMaps Go.WideElems Go.RowKit
theorem zJV:ownKnob Tryz.prog.godebug=none:=by kernel_rfl
theorem Db:laidOutB Tryz.prog=true:=by kernel_rfl
theorem zIP:Tryz.prog.globalNamed "internal/strconv.uint64pow10" = some 0:=by kernel_rfl
theorem tPow:(Tryz.prog.globals[0]?).map (·.type)=some 275:=by kernel_rfl
theorem zDH{H:Type}:(Rows.laid_internal_strconv_uint64pow10:DataW H)=Lib.tabData .u64 Lib.pow10Tab:=by rfl
abbrev V0:List (String × DataW Unit):=[("math/bits.deBruijn32tab",Rows.laid_math_bits_deBruijn32tab),("math/bits.deBruijn64tab",Rows.laid_math_bits_deBruijn64tab),("internal/strconv.uint64pow10",Rows.laid_internal_strconv_uint64pow10)]
theorem qd{W:World}(h:laidMetH Tryz.prog V0 W):rL W:=by
 rw[MakeChecks.laidMetH_plain _ _ _ (by kernel_rfl)]at h;have h2:=laidMet.tail (laidMet.tail h)
 have hT:zKQ W:=by
  rw[zDH]at h2;exact Lib.tabIs_of_head zIP tPow Tryz.underlying275 Tryz.underlying247 (by kernel_rfl) (by kernel_rfl) h2
 exact⟨hT,0,zIP,World.block_lt_of_cell? _ _ (Lib.TabIs.cell hT zIP 0 (by decide))⟩
theorem GH(os:Os)(args:Array Value):laidMetH Tryz.prog V0 ((World.doorLaid Tryz.prog 4000 os).forCall (fun _ _=>0) ⟨#[],args,[]⟩).memory :=
 laidMetH_of_parts3 (fuel:=8) (laidMet_of_run' 8 (by kernel_rfl) (by kernel_rfl)) (by kernel_rfl) (by kernel_rfl)
theorem zEG(os:Os)(started:os.Started)(H:Type)(enc:TypeId × Value->H) :
 ReturnsInHanded {} Tryz.checked os 8 .any (fun w args=>(Rows.splitSpec.pre enc Tryz.prog Tryz.f8 [] false w args/\laidMetH Tryz.prog V0 w)/\sizedMet enc Tryz.prog Tryz.f8 (OpenSpec.ofChange Rows.splitSpec) false w args)
  (Rows.splitSpec.post enc Tryz.prog Tryz.f8 false true false false):=by
 refine returnsInHanded_of_change_and (C:=Tryz.checked) (X:=fun w _=>laidMetH Tryz.prog V0 w) (fun _ _ _ hh h=>h.of_heap hh) zJV started (by kernel_rfl) Tryz.func8
  (ChangeSpec.witness_shaped (enc:=enc) (C:=Tryz.checked) (os:=os) (X:=fun w _=>laidMetH Tryz.prog V0 w) false (World.doorLaid Tryz.prog 4000 os) #[.agg #[.slice none 0 0,.slice none 0 0,.slice none 0 0],.slice none 0 0] 8 rfl (World.shaped_of_RefB (by kernel_rfl) (by kernel_rfl)) (by kernel_rfl) (by kernel_rfl) (by kernel_rfl) (GH os _)) ?_
 intro W base args ds gs before hval0 hW _ _ hL _;have hval:∀(j:Nat) t v,(Tryz.f8).params[j]? = some t->args[j]? = some v->Value.okWide Tryz.prog W .any base t v:=hval0;have hW':=hW;obtain⟨p,q,hA0,hV,rfl,hfz,hnd⟩:=hW;have hA:DataW.TrodAll enc Tryz.prog W 0 (fun _=>true) true (Tryz.f8).params.toList args.toList ds p:=hA0;rw[Tryz.params8]at hA hval;obtain⟨v0,v1,d0,d1,p0,p1,rfl,rfl,rfl,h0,h1⟩:=trodAll_two hA;obtain⟨rfl,rfl⟩:=trodVars_none hV;have h0k:=h0;have h1k:=h1;have hlt0:∀x∈p0,x.block<W.heap.size:=fun x hx=>by simpa using hW'.lt x (by simp[hx])
 have hlt1:∀x∈p1,x.block<W.heap.size:=fun x hx=>by simpa using hW'.lt x (by simp[hx])
 obtain⟨la,ln,lc,wa,wn,wk,ra,rn,rc,hd,rfl,r0,r1,r2⟩:=G0 (hval 0 25 v0 rfl rfl) h0;obtain⟨ga,gn,gc,rfl⟩:=okWide_slice Tryz.underlying22 (hval 1 22 v1 rfl rfl);obtain⟨fuel,hf⟩:=h1;obtain⟨a',n',c',e,r3⟩:=iT hf;simp only[Value.cells]at e;injection e with e _
 injection e with e1 e2 e3
 subst e1 e2 e3;have hT:=qd hL;clear hA0 hval0;refine(ze W la wa ra ga ln lc wn wk rn rc gn gc hd r0 r1 r2 r3 hT).mono fun e W' ⟨he,hb⟩=>?_;subst he;refine⟨_,rfl,_,_,_,[],p0++p1,[],hW',?_,?_,?_,?_,?_⟩
 ·exact trodAll_mk1 (shut_bool Tryz.underlying4 _)
 ·exact trodAll_mk2 (Below.trod Db (by kernel_rfl) (ce (by kernel_rfl)) h0k hb hlt0) (Below.trod Db (by kernel_rfl) (ce (by kernel_rfl)) h1k hb hlt1)
 ·rfl
 ·exact hb.frame _
 ·intro h;exact absurd h (by decide)
theorem KH:Rows.SplitSaid :=
 OpenClaim.holds_of_wide 8 Tryz.f8 rfl rfl rfl rfl rfl rfl rfl ⟨rfl,rfl,rfl,rfl,rfl⟩ rfl rfl rfl rfl rfl (by kernel_rfl) Tryz.func8 (by kernel_rfl)
  (ce (by kernel_rfl)) (by unfold Func.isWrapper;first|(rw[tl (by decide +kernel)];kernel_rfl)|(rw[tb (by decide +kernel)];exact⟨rfl,rfl⟩))
  (fun os started H enc _=>zEG os started H enc)
end Go.Proofs.YtnbpdffdnphbeabGreatDoor
