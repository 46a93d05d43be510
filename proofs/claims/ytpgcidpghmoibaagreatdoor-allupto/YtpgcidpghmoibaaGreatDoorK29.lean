/-
  WHAT THE LISTED VARIABLES HOLD, as the walks want it
-/
import Derived.Test.YtpgcidpghmoibaaGreatDoorK06
import Derived.Lib.LaidU8T
import Derived.LaidMore
import Derived.ProofKit
import Derived.OpenShut
import Derived.Stop.Joined
import Derived.Test.YtpgcidpghmoibaaGreatDoorRows
namespace Go.Proofs.YtpgcidpghmoibaaGreatDoor
open Go.Shelf Go.Lib
def tabRen:Ren:=⟨fun n=>n,fun | 5=>5 | 119=>250 | 138=>252 | 139=>253 | n=>n,fun | 3=>1 | 4=>2 | n=>n⟩
theorem tabTypes:U8Types Tryz.prog tabRen:=⟨by kernel_rfl,by kernel_rfl,by kernel_rfl,by kernel_rfl⟩
theorem tabExtra:U8Extra Tryz.prog tabRen:=⟨by kernel_rfl,by kernel_rfl,by kernel_rfl,by kernel_rfl,by kernel_rfl,by kernel_rfl,by kernel_rfl⟩
theorem first_eq:Rows.laid_unicode_utf8_first=firstData:=by kernel_rfl
theorem accept_eq:(Rows.laid_unicode_utf8_acceptRanges:DataW Unit)=acceptData:=by kernel_rfl
theorem gSyn : Tryz.prog.globalNamed "strconv.ErrSyntax" = some 3 := by kernel_rfl
theorem tSyn:(Tryz.prog.globals[3]?).map (·.type)=some 262:=by kernel_rfl
abbrev laid7:List (String × DataW Unit):=Rows.compilesRow.laid
theorem tabs_of_laid {W:World} (h:laidMetH Tryz.prog laid7 W):Pr.Tabs W:=by
  rw [MakeChecks.laidMetH_plain _ _ _ (by kernel_rfl)] at h
  have h3 : VarReads Tryz.prog W "unicode/utf8.first" firstData := by
    rw [← first_eq]
    exact laidMet.reads h (by simp [laid7,Rows.compilesRow])
  have h4 : VarReads Tryz.prog W "unicode/utf8.acceptRanges" acceptData := by
    rw [← accept_eq]
    exact laidMet.reads h (by simp [laid7,Rows.compilesRow])
  have h5 : VarReads Tryz.prog W "strconv.ErrSyntax" Rows.laid_strconv_ErrSyntax := laidMet.reads h (by simp [laid7, Rows.compilesRow])
  refine ⟨utf8Tabs_of_readsT tabTypes tabExtra h3 h4,?_⟩
  obtain ⟨g,t,cs,fuel,p,hg,hty,hvar,hd⟩:=h5
  obtain rfl:=Option.some.inj (gSyn.symm.trans hg)
  obtain rfl:=Option.some.inj (tSyn.symm.trans hty)
  obtain ⟨f1,u,v,hcs,_⟩:=iface_of_trod Tryz.underlying262 hd
  have:=World.var?_cell hg hvar 0
  rw [Array.eq_one_of_toList hcs] at this
  exact ⟨u,v,by simpa using this⟩
noncomputable def startW (os:Os):World:=
  { World.doorLaid Tryz.prog 72 os with heap:=(World.doorLaid Tryz.prog 72 os).heap.modify 1 fun
    | .cells _ t f=>.cells (firstTab.map fun z=>Value.int .u8 z).toArray t f
    | o=>o }
theorem met7 (os:Os) (args:Array Value):laidMetH Tryz.prog laid7 ((startW os).forCall (fun _ _=>0) ⟨#[],args,[]⟩).memory:=
  laidMetH_of_parts3 (fuel:=8) (laidMet_of_run' 8 (by kernel_rfl) (by kernel_rfl)) (by kernel_rfl) (by kernel_rfl)
theorem own7:ownKnob Tryz.prog.godebug=none:=by kernel_rfl
end Go.Proofs.YtpgcidpghmoibaaGreatDoor
