/-
  DERIVED
  ROWS OF RANGES, as memory, and the library's Clone and SortFunc on the
  THE PROGRAM's SETS
-/
import Derived.Shelf.SlSortCmp.WholeK
import Derived.Shelf.SlSortCmp.NoneTotal
import Derived.Shelf.SlicesE.Clone
import Derived.Test.YtpgcidpghmoibaaGreatDoorChecked
import Derived.Test.YtpgcidpghmoibaaGreatDoorK02
namespace Go.Proofs
open Go.Shelf
def Tryz.sortR_ren : Go.Shelf.Ren := ⟨fun | 6 => 166 | 15 => 174 | 14 => 173 | 28 => 187 | 29 => 188 | 20 => 179 | 21 => 180 | 22 => 181 | 23 => 182 | 24 => 183 | 25 => 184 | 26 => 185 | 27 => 186 | 46 => 192 | 47 => 193 | 48 => 194 | 49 => 195 | 50 => 196 | 57 => 198 | n => n, fun | 22 => 145 | 24 => 197 | 25 => 232 | 3 => 3 | 39 => 206 | 0 => 0 | 53 => 248 | 55 => 151 | 4 => 4 | 46 => 242 | 45 => 241 | 50 => 133 | 5 => 5 | 9 => 9 | 66 => 255 | 70 => 259 | 76 => 265 | 77 => 128 | n => n, fun | n => n⟩
theorem Tryz.sortR : Go.Proofs.SlLaysF0.n6 Tryz.prog Tryz.sortR_ren := {
  mixed := by kernel_rfl
  f6 := ⟨Tryz.f166.name, by decide, Tryz.func166.trans (congrArg some (by kernel_rfl))⟩
  f14 := ⟨Tryz.f173.name, by decide, Tryz.func173.trans (congrArg some (by kernel_rfl))⟩
  f15 := Tryz.func174.trans (congrArg some (by kernel_rfl))
  f20 := ⟨Tryz.f179.name, by decide, Tryz.func179.trans (congrArg some (by kernel_rfl))⟩
  f21 := ⟨Tryz.f180.name, by decide, Tryz.func180.trans (congrArg some (by kernel_rfl))⟩
  f22 := ⟨Tryz.f181.name, by decide, Tryz.func181.trans (congrArg some (by kernel_rfl))⟩
  f23 := ⟨Tryz.f182.name, by decide, Tryz.func182.trans (congrArg some (by kernel_rfl))⟩
  f24 := ⟨Tryz.f183.name, by decide, Tryz.func183.trans (congrArg some (by kernel_rfl))⟩
  f25 := ⟨Tryz.f184.name, by decide, Tryz.func184.trans (congrArg some (by kernel_rfl))⟩
  f26 := ⟨Tryz.f185.name, by decide, Tryz.func185.trans (congrArg some (by kernel_rfl))⟩
  f27 := ⟨Tryz.f186.name, by decide, Tryz.func186.trans (congrArg some (by kernel_rfl))⟩
  f28 := Tryz.func187.trans (congrArg some (by kernel_rfl))
  f29 := Tryz.func188.trans (congrArg some (by kernel_rfl))
  f46 := ⟨Tryz.f192.name, by decide, Tryz.func192.trans (congrArg some (by kernel_rfl))⟩
  f47 := Tryz.func193.trans (congrArg some (by kernel_rfl))
  f48 := Tryz.func194.trans (congrArg some (by kernel_rfl))
  f49 := ⟨Tryz.f195.name, by decide, Tryz.func195.trans (congrArg some (by kernel_rfl))⟩
  f50 := ⟨Tryz.f196.name, by decide, Tryz.func196.trans (congrArg some (by kernel_rfl))⟩
  f57 := ⟨Tryz.f198.name, by decide, Tryz.func198.trans (congrArg some (by kernel_rfl))⟩
  t0 := Tryz.underlying0
  a0 := Tryz.isAgg0
  z0 := Tryz.sizeOf0
  v0 := Tryz.zeroValue0
  t3 := Tryz.underlying3
  a3 := Tryz.isAgg3
  z3 := Tryz.sizeOf3
  v3 := Tryz.zeroValue3
  t4 := Tryz.underlying4
  a4 := Tryz.isAgg4
  z4 := Tryz.sizeOf4
  v4 := Tryz.zeroValue4
  t5 := Tryz.underlying5
  a5 := Tryz.isAgg5
  z5 := Tryz.sizeOf5
  v5 := Tryz.zeroValue5
  t9 := Tryz.underlying9
  a9 := Tryz.isAgg9
  z9 := Tryz.sizeOf9
  v9 := Tryz.zeroValue9
  t22 := Tryz.underlying145
  a22 := Tryz.isAgg145
  z22 := Tryz.sizeOf145
  v22 := Tryz.zeroValue145
  t25 := Tryz.underlying232
  a25 := Tryz.isAgg232
  z25 := Tryz.sizeOf232
  v25 := Tryz.zeroValue232
  t39 := Tryz.underlying206
  a39 := Tryz.isAgg206
  z39 := Tryz.sizeOf206
  v39 := Tryz.zeroValue206
  t45 := Tryz.underlying241
  a45 := Tryz.isAgg241
  z45 := Tryz.sizeOf241
  v45 := Tryz.zeroValue241
  t46 := Tryz.underlying242
  a46 := Tryz.isAgg242
  z46 := Tryz.sizeOf242
  v46 := Tryz.zeroValue242
  t50 := Tryz.underlying133
  a50 := Tryz.isAgg133
  z50 := Tryz.sizeOf133
  v50 := Tryz.zeroValue133
  t53 := Tryz.underlying248
  a53 := Tryz.isAgg248
  z53 := Tryz.sizeOf248
  v53 := Tryz.zeroValue248
  t55 := Tryz.underlying151
  a55 := Tryz.isAgg151
  z55 := Tryz.sizeOf151
  v55 := Tryz.zeroValue151
  t66 := Tryz.underlying255
  a66 := Tryz.isAgg255
  z66 := Tryz.sizeOf255
  v66 := Tryz.zeroValue255
  t70 := Tryz.underlying259
  a70 := Tryz.isAgg259
  z70 := Tryz.sizeOf259
  v70 := Tryz.zeroValue259
  t76 := Tryz.underlying265
  a76 := Tryz.isAgg265
  z76 := Tryz.sizeOf265
  v76 := Tryz.zeroValue265
  t77 := Tryz.underlying128
  a77 := Tryz.isAgg128
  z77 := Tryz.sizeOf128
  v77 := Tryz.zeroValue128 }
def Tryz.cloneR_ren : Go.Shelf.Ren := ⟨fun | 41 => 165 | n => n, fun | 22 => 145 | 23 => 197 | 4 => 4 | n => n, fun | n => n⟩
theorem Tryz.cloneR : Go.Proofs.SlLaysE0.n41 Tryz.prog Tryz.cloneR_ren := {
  mixed := by kernel_rfl
  f41 := ⟨Tryz.f165.name, by decide, Tryz.func165.trans (congrArg some (by kernel_rfl))⟩
  t4 := Tryz.underlying4
  a4 := Tryz.isAgg4
  z4 := Tryz.sizeOf4
  v4 := Tryz.zeroValue4
  t22 := Tryz.underlying145
  a22 := Tryz.isAgg145
  z22 := Tryz.sizeOf145
  v22 := Tryz.zeroValue145 }
end Go.Proofs

namespace Go.Proofs.YtpgcidpghmoibaaGreatDoor
namespace Pr
open Go.RowKit
open Rf (Kept)
def renc (x:Nat × Nat):List Value:=[.int .i32 (x.1:Int),.int .i32 (x.2:Int)]
def rc (l:List (Nat × Nat)):List Value:=(l.map renc).flatten
theorem rc_len (l:List (Nat × Nat)):(rc l).length=l.length * 2:=by
  induction l with
  | nil=>rfl
  | cons a l ih=>simp [rc,renc] at ih ⊢;omega
theorem rc_snoc (l:List (Nat × Nat)) (x:Nat × Nat):rc (l ++ [x])=rc l ++ renc x:=by simp [rc]
theorem rc_get:∀ (l:List (Nat × Nat)) (k o:Nat) (x:Nat × Nat),l[k]?=some x→o < 2→(rc l)[k * 2 + o]?=(renc x)[o]?
  | [],k,o,x,h,_=>by simp at h
  | y :: l,0,o,x,h,ho=>by
    simp only [List.getElem?_cons_zero,Option.some.injEq] at h
    subst h
    simp only [rc,List.map_cons,List.flatten_cons,Nat.zero_mul,Nat.zero_add]
    rw [List.getElem?_append_left (by simpa [renc] using ho)]
  | y :: l,k + 1,o,x,h,ho=>by
    simp only [List.getElem?_cons_succ] at h
    have ih:=rc_get l k o x h ho
    simp only [rc,List.map_cons,List.flatten_cons]
    rw [List.getElem?_append_right (by simp [renc];omega)]
    have e:(k + 1) * 2 + o - (renc y).length=k * 2 + o:=by simp [renc];omega
    rw [e]
    exact ih
theorem flat_rc (d:Array (Nat × Nat)):Sort.flatK renc 2 d=(rc d.toList).toArray:=by
  refine Sort.ext_get! (by simp [rc_len]) fun t ht=>?_
  have ht':t < d.size * 2:=by simpa using ht
  rw [Sort.get_flatK renc 2 d t ht']
  have hk:t / 2 < d.size:=by omega
  have hx:d.toList[t / 2]?=some d[t / 2]!:=by
    rw [getElem!_pos d _ hk,Array.getElem?_toList,Array.getElem?_eq_getElem hk]
  have h:=rc_get d.toList (t / 2) (t % 2) _ hx (by omega)
  rw [show t / 2 * 2 + t % 2=t by omega] at h
  have hl:t < (rc d.toList).length:=by rw [rc_len];simpa using ht'
  rw [List.getElem?_eq_getElem hl] at h
  have e1:(rc d.toList).toArray[t]! = (rc d.toList)[t]:=by
    rw [getElem!_pos _ t (by simpa using hl)]
    simp
  rw [e1,List.getElem!_eq_getElem?_getD,← h]
  rfl
theorem own_holds {w:World} {B g cap n:Nat} {xs:List Value} (h:w.ownsRow B 197 2 (.slice (some ⟨g,0,none⟩) n cap) n xs):Sort.Holds id w g 0 xs.toArray:=by
  obtain ⟨h1,h2⟩:=h
  rcases h2 with ⟨h2,_⟩ | ⟨g',cap',cur,h2,_,hb,_,_,hcs,htk⟩
  · cases h2
  · simp only [Value.slice.injEq,Option.some.injEq,Addr.mk.injEq,and_true,true_and] at h2
    obtain ⟨rfl,rfl⟩:=h2
    intro j hj
    have hj':j < xs.length:=by simpa using hj
    refine ⟨?_,Rf.free_blk hb _⟩
    rw [Nat.zero_add,getElem!_pos _ j (by simpa using hj')]
    apply Rf.cell_blk hb
    have h3:(cur.toList.take (n * 2))[j]?=some xs[j]:=by rw [htk];exact List.getElem?_eq_getElem hj'
    rw [List.getElem?_take] at h3
    split at h3
    · rw [Array.getElem?_toList] at h3
      rw [h3]
      simp
    · cases h3
theorem own_put {w:World} {B g cap n m:Nat} {xs:List Value} {os:Array Obj} (h:w.ownsRow B 197 2 (.slice (some ⟨g,0,none⟩) n cap) n xs) (ys:List Value) (hl:ys.length=xs.length) :
    (Sort.grow (Sort.putRow id (Sort.ahead w m) g 0 ys.toArray) os).ownsRow B 197 2 (.slice (some ⟨g,0,none⟩) n cap) n ys∧Kept (fun k=>k ≠ g) w (Sort.grow (Sort.putRow id (Sort.ahead w m) g 0 ys.toArray) os):=by
  obtain ⟨h1,h2⟩:=h
  rcases h2 with ⟨h2,_⟩ | ⟨g',cap',cur,h2,hB,hb,hnc,hcm,hcs,htk⟩
  · cases h2
  · simp only [Value.slice.injEq,Option.some.injEq,Addr.mk.injEq,and_true,true_and] at h2
    obtain ⟨rfl,rfl⟩:=h2
    have hlt:=lt_of_block hb
    have hsz:(Sort.putRow id (Sort.ahead w m) g 0 ys.toArray).heap.size=w.heap.size:=by simp [Sort.putRow,Sort.mapBlock,Sort.ahead]
    refine ⟨⟨hl.trans h1,.inr ⟨g,cap,Sort.putCells id 0 ys.toArray cur,rfl,hB,?_,hnc,hcm,by simp [Sort.putCells,hcs],?_⟩⟩,⟨rfl,rfl,rfl,by simp [Sort.grow,hsz],?_⟩⟩
    · show ((Sort.putRow id (Sort.ahead w m) g 0 ys.toArray).heap ++ os)[g]?=_
      rw [Array.getElem?_append_left (by rw [hsz];exact hlt)]
      simp [Sort.putRow,Sort.mapBlock,Sort.ahead,Array.getElem?_modify,hb,Sort.onCells]
    · apply List.ext_getElem?
      intro j
      rw [List.getElem?_take]
      split
      · rename_i hj
        rw [Array.getElem?_toList]
        have hj2:j < cur.size:=by
          rw [hcs]
          exact Nat.lt_of_lt_of_le hj (Nat.mul_le_mul_right 2 hnc)
        have hj3:j < ys.length:=by omega
        simp [Sort.putCells,hj2,hj3]
      · rename_i hj
        rw [List.getElem?_eq_none (by omega)]
    · intro k hk hne
      show ((Sort.putRow id (Sort.ahead w m) g 0 ys.toArray).heap ++ os)[k]?=_
      rw [Array.getElem?_append_left (by rw [hsz];exact hk)]
      simp [Sort.putRow,Sort.mapBlock,Sort.ahead,Array.getElem?_modify,Ne.symm hne]
set_option maxRecDepth 100000 in
set_option maxHeartbeats 1000000 in
theorem compare_any (x y:Int) (w:World):Calls Tryz.prog 168 #[.int .i32 x,.int .i32 y] w fun e w'=>e=.returned (.int .i64 (Lib.compareInt x y))∧w'=w:=by
  unfold Lib.compareInt
  by_cases h:x < y
  · have h':¬ y < x:=by omega
    rw [if_pos h]
    go_enter Tryz.func168,Tryz.ntmps168
    go_wp2
    go_ret
    exact ⟨rfl,rfl⟩
  · rw [if_neg h]
    by_cases h2:y < x
    · rw [if_pos h2]
      go_enter Tryz.func168,Tryz.ntmps168
      go_wp2
      go_ret
      exact ⟨rfl,rfl⟩
    · rw [if_neg h2]
      go_enter Tryz.func168,Tryz.ntmps168
      go_wp2
      go_ret
      exact ⟨rfl,rfl⟩
def cfR (x y:Nat × Nat):Int:=Lib.compareInt (x.1:Int) (y.1:Int)
set_option maxRecDepth 100000 in
set_option maxHeartbeats 1000000 in
theorem closure_any (x y:Nat × Nat) (W:World):Calls Tryz.prog 167 #[.agg #[.int .i32 (x.1:Int),.int .i32 (x.2:Int)],.agg #[.int .i32 (y.1:Int),.int .i32 (y.2:Int)]] W fun e w'=>e=.returned (.int .i64 (cfR x y))∧∃ q os',w'=Sort.grow (W.drewN q) os':=by
  have hcon:=fun W'=>compare_any (x.1:Int) (y.1:Int) W'
  unfold cfR
  generalize Lib.compareInt (x.1:Int) (y.1:Int)=r at hcon ⊢
  go_enter Tryz.func167,Tryz.ntmps167
  go_wp2_with (go_at_call 168;refine (hcon _).mono ?_;rintro e w' ⟨rfl,rfl⟩)
  go_ret
  exact ⟨rfl,0,_,by rw [Sort.alloc_eq_grow,Sort.alloc_eq_grow,Sort.grow_grow];rfl⟩
theorem ltR (x y:Nat × Nat):ltOf cfR x y=decide (x.1 < y.1):=by
  unfold ltOf cfR Lib.compareInt
  by_cases h1:(x.1:Int) < (y.1:Int)
  · have:x.1 < y.1:=by omega
    simp [this]
  · have h3:¬ x.1 < y.1:=by omega
    by_cases h2:(y.1:Int) < (x.1:Int)
    · have:y.1 < x.1:=by omega
      simp [h3,this]
    · have:¬ y.1 < x.1:=by omega
      simp [h3,this]
theorem swoR:Sort.SWO (ltOf cfR) where
  irrefl x:=by rw [ltR];simp
  trans x y z h1 h2:=by rw [ltR] at *;simp at *;omega
  ntrans x y z h1 h2:=by rw [ltR] at *;simp at *;omega
theorem renc_len (x:Nat × Nat):(renc x).length=2:=rfl
theorem renc_one (x:Nat × Nat):∀ v ∈ renc x,v.oneCell'=true:=by
  intro v hv
  simp only [renc,List.mem_cons,List.not_mem_nil,or_false] at hv
  rcases hv with rfl | rfl <;> rfl
set_option maxHeartbeats 1000000 in
theorem sort_any (w:World) (B g cap:Nat) (rs:List (Nat × Nat)) (h:w.ownsRow B 197 2 (.slice (some ⟨g,0,none⟩) rs.length cap) rs.length (rc rs)) (hn:rs.length≤100000) :
    Calls Tryz.prog 166 #[.slice (some ⟨g,0,none⟩) rs.length cap,.func (.func 167) #[] #[]] w fun e w'=>e=.returned (.tuple #[]) ∧
      ∃ rs',rs'.Perm rs∧rs'.Pairwise (fun a b=>a.1≤b.1)∧w'.ownsRow B 197 2 (.slice (some ⟨g,0,none⟩) rs.length cap) rs.length (rc rs')∧Kept (fun k=>k ≠ g) w w':=by
  have eg:∀ args w,(callFunc 167 args).run Tryz.prog w=.ok (.enter 167 args) w:=enters_of Tryz.func167 (by kernel_rfl) rfl
  have hH:Sort.HoldsK renc 2 w g 0 rs.toArray:=by
    unfold Sort.HoldsK
    rw [flat_rc]
    exact own_holds h
  have hblk:g < w.heap.size:=by
    have:=(h.lt g rfl).2
    exact this
  have hcon:=AnyQ.slices_SortFunc Tryz.sortR 2 Tryz.isAgg197 Tryz.sizeOf197 renc renc_len renc_one cfR swoR 167 #[] g 0 cap rs.toArray w eg (fun _ _ _ _ x y=>closure_any x y _) hH hblk (by simp;omega)
  change Calls Tryz.prog 166 _ _ _ at hcon
  simp only [List.size_toArray] at hcon
  refine hcon.mono ?_
  rintro e w' ⟨rfl,d',n,os,⟨hp1,_,hp3⟩,hs,rfl⟩
  have hsz:d'.size=rs.length:=by simpa using hp1
  have hperm:d'.toList.Perm rs:=by
    have e1:(d'.extract 0 rs.length).toList=d'.toList:=by rw [← hsz];simp
    have e2:(rs.toArray.extract 0 rs.length).toList=rs:=by
      have:rs.toArray.extract 0 rs.length=rs.toArray:=by
        rw [show rs.length=rs.toArray.size by simp]
        exact Array.extract_size
      rw [this]
    rw [e1,e2] at hp3
    exact hp3
  have hpw:d'.toList.Pairwise (fun a b=>a.1≤b.1):=by
    rw [List.pairwise_iff_getElem]
    intro i j hi hj hij
    have h1:=hs i j (Nat.zero_le _) hij (by simpa [hsz] using hj)
    rw [ltR] at h1
    have hi':i < d'.size:=by simpa using hi
    have hj':j < d'.size:=by simpa using hj
    rw [getElem!_pos d' i hi',getElem!_pos d' j hj'] at h1
    simp only [decide_eq_false_iff_not] at h1
    simp only [Array.getElem_toList]
    omega
  refine ⟨rfl,d'.toList,hperm,hpw,?_⟩
  unfold sortWorldK Sort.putRowK
  rw [flat_rc]
  exact own_put h (rc d'.toList) (by rw [rc_len,rc_len,hperm.length_eq])
theorem infoR:(Tryz.prog.info? 197).map (fun i=>(i.zero,i.size,i.bytes))=some (some (.agg #[.int .i32 0,.int .i32 0]),2,8):=by kernel_rfl
theorem clone_any (w:World) (rs:List (Nat × Nat)) (v:Value) (h:w.ownsRow 0 197 2 v rs.length (rc rs)) (hn:rs.length≤100000) :
    Calls Tryz.prog 165 #[v] w fun e w'=>∃ v',e=.returned v'∧w'.ownsRow w.heap.size 197 2 v' rs.length (rc rs)∧Below w.heap.size w w':=by
  obtain ⟨i0,hi,hz0,hz1,hz2⟩:=info_parts infoR
  rcases h.2 with ⟨rfl,h0⟩ | ⟨g,cap,cur,rfl,_,hb,hnc,hcm,hcs,htk⟩
  · have hr:rs=[]:=List.eq_nil_of_length_eq_zero h0
    subst hr
    have hcon:=AnyE.slices_Clone_nil Tryz.cloneR 0 0 w
    change Calls Tryz.prog 165 _ _ _ at hcon
    refine hcon.mono ?_
    rintro e w' ⟨rfl,rfl⟩
    exact ⟨_,rfl,World.ownsRow_nil _ _ _ _,Below.refl _ _⟩
  · have hcon:=AnyE.slices_Clone Tryz.cloneR i0 (.agg #[.int .i32 0,.int .i32 0]) 2 8 hi hz0 hz1 hz2 rfl (by decide) Tryz.sizeOf197 g 0 rs.length cap (rc rs) w (rc_len rs) (by unfold maxLen;omega) (by omega)
      (fun j u hj=>by rw [Nat.zero_add];have:=h.cells (g:=g) rfl j u hj;rw [Addr.add_lit,Nat.zero_add] at this;exact this) (fun u hu=>by
        simp only [rc,List.mem_flatten,List.mem_map] at hu
        obtain ⟨l,⟨x,_,rfl⟩,hu⟩:=hu
        exact renc_one x u hu)
    change Calls Tryz.prog 165 _ _ _ at hcon
    refine hcon.mono ?_
    rintro e w' ⟨v',rfl,h1,_,h3⟩
    exact ⟨v',rfl,h1,h3⟩
end Pr
end Go.Proofs.YtpgcidpghmoibaaGreatDoor

namespace Go.Proofs.YtpgcidpghmoibaaGreatDoor
namespace Pr
open Go.RowKit
open Rf (Kept)
structure SetOk (rs' rs:List (Nat × Nat)):Prop where
  sep:G.Sep rs'
  bd:∀ r ∈ rs',r.2≤1114111
  eqv:∀ c,rs'.any (G.within c)=rs.any (G.within c)
  len:rs'.length≤rs.length
theorem meld_bd (M:Nat) (acc:List (Nat × Nat)) (x:Nat × Nat) (h:∀ r ∈ acc,r.2≤M) (hx:x.2≤M):(∀ r ∈ G.meld acc x,r.2≤M)∧(G.meld acc x).length≤acc.length + 1:=by
  rcases G.snoc_cases acc with rfl | ⟨i,l,rfl⟩
  · rw [G.meld_nil];exact ⟨by simpa using hx,by simp⟩
  · by_cases hc:x.1≤l.2
    · rw [G.meld_in i l x hc]
      refine ⟨?_,by simp⟩
      intro r hr
      simp only [List.mem_append,List.mem_singleton] at hr
      rcases hr with hr | rfl
      · exact h r (by simp [hr])
      · have:=h l (by simp)
        show max l.2 x.2≤M
        omega
    · rw [G.meld_out i l x hc]
      refine ⟨?_,by simp⟩
      intro r hr
      rw [List.mem_append] at hr
      rcases hr with hr | hr
      · exact h r hr
      · simp only [List.mem_singleton] at hr
        subst hr
        exact hx
theorem melds_bd (M:Nat) (l:List (Nat × Nat)) (h:∀ r ∈ l,r.2≤M):∀ k,k≤l.length→(∀ r ∈ G.melds (l.take k),r.2≤M)∧(G.melds (l.take k)).length≤k
  | 0,_=>by simp [G.melds]
  | k + 1,hk=>by
    have ih:=melds_bd M l h k (by omega)
    have hx:=List.getElem?_eq_getElem (show k < l.length by omega)
    rw [List.take_add_one,hx]
    show (∀ r ∈ G.melds (l.take k ++ [l[k]]),r.2≤M)∧(G.melds (l.take k ++ [l[k]])).length≤k + 1
    rw [G.melds_snoc]
    have:=meld_bd M _ l[k] ih.1 (h _ (List.getElem_mem _))
    exact ⟨this.1,by omega⟩
theorem sort_all (w:World) (B:Nat) (v:Value) (rs:List (Nat × Nat)) (hB:B≤w.heap.size) (h:w.ownsRow B 197 2 v rs.length (rc rs)) (hn:rs.length≤100000) :
    Calls Tryz.prog 166 #[v,.func (.func 167) #[] #[]] w fun e w'=>e=.returned (.tuple #[]) ∧
      ∃ rs',rs'.Perm rs∧rs'.Pairwise (fun a b=>a.1≤b.1)∧w'.ownsRow B 197 2 v rs.length (rc rs')∧Below B w w':=by
  rcases h.2 with ⟨rfl,h0⟩ | ⟨g,cap,cur,rfl,hBg,_⟩
  · have hr:rs=[]:=List.eq_nil_of_length_eq_zero h0
    subst hr
    have hcon:=AnyF.slices_SortFunc_none Tryz.sortR none 0 (.func (.func 167) #[] #[]) w
    change Calls Tryz.prog 166 _ _ _ at hcon
    refine hcon.mono ?_
    rintro e w' ⟨rfl,rfl⟩
    exact ⟨rfl,[],List.Perm.refl _,List.Pairwise.nil,h,Below.refl _ _⟩
  · refine (sort_any w B g cap rs h hn).mono ?_
    rintro e w' ⟨rfl,rs',h1,h2,h3,h4⟩
    exact ⟨rfl,rs',h1,h2,h3,⟨h4.os,h4.tape,h4.output,h4.size,fun k hk=>h4.block k (by omega) (by omega)⟩⟩
theorem own_cell' {w:World} {b e size n g cap:Nat} {xs:List Value} {u:Value} (h:w.ownsRow b e size (.slice (some ⟨g,0,none⟩) n cap) n xs) (j:Nat) (hu:xs[j]?=some u):w.cell? ⟨g,j,none⟩=some u:=by
  have:=h.cells (g:=g) rfl j u hu
  by_cases e:j=0
  · subst e;exact this
  · simpa [Addr.add,e] using this
theorem own_frozen {w:World} {b e size n g cap:Nat} {xs:List Value} (h:w.ownsRow b e size (.slice (some ⟨g,0,none⟩) n cap) n xs) (o:Nat):w.frozen? ⟨g,o,none⟩=false:=by
  rcases h.2 with ⟨h2,_⟩ | ⟨g',cap',cur,h2,_,hb,_⟩
  · cases h2
  · simp only [Value.slice.injEq,Option.some.injEq,Addr.mk.injEq,and_true,true_and] at h2
    obtain ⟨rfl,rfl⟩:=h2
    exact Rf.free_blk hb o
theorem own_set {w:World} {b e size n g cap:Nat} {xs:List Value} (h:w.ownsRow b e size (.slice (some ⟨g,0,none⟩) n cap) n xs) (o:Nat) (u:Value) (_ho:o < n * size):(w.setCell ⟨g,o,none⟩ u).ownsRow b e size (.slice (some ⟨g,0,none⟩) n cap) n (xs.set o u):=by
  obtain ⟨h1,h2⟩:=h
  rcases h2 with ⟨h2,_⟩ | ⟨g',cap',cur,h2,hB,hb,hnc,hcm,hcs,htk⟩
  · cases h2
  · simp only [Value.slice.injEq,Option.some.injEq,Addr.mk.injEq,and_true,true_and] at h2
    obtain ⟨rfl,rfl⟩:=h2
    refine ⟨by simpa using h1,.inr ⟨g,cap,cur.setIfInBounds o u,rfl,hB,Rf.blk_set hb o u,hnc,hcm,by simpa using hcs,?_⟩⟩
    rw [Array.toList_setIfInBounds,List.take_set,htk]
theorem rc_put (i:List (Nat × Nat)) (l:Nat × Nat) (m:Nat):(rc (i ++ [l])).set (i.length * 2 + 1) (.int .i32 (m:Int))=rc (i ++ [(l.1,m)]):=by
  rw [rc_snoc,rc_snoc,List.set_append,if_neg (by rw [rc_len];omega),rc_len]
  rw [show i.length * 2 + 1 - i.length * 2=1 by omega]
  rfl
theorem own_same_at {w w':World} {b e size n:Nat} {v:Value} {xs:List Value} (h:w.ownsRow b e size v n xs) (hk:∀ k,v.ownBlock=some k→w'.heap[k]?=w.heap[k]?):w'.ownsRow b e size v n xs:=by
  obtain ⟨h1,h2⟩:=h
  refine ⟨h1,?_⟩
  rcases h2 with h2 | ⟨g,cap,cur,rfl,h3,h4,h5⟩
  · exact .inl h2
  · exact .inr ⟨g,cap,cur,rfl,h3,by rw [hk g rfl];exact h4,h5⟩
theorem infoRg:(Tryz.prog.info? 197).map (fun i=>(i.zero,i.size,i.bytes))=some (some (.agg #[.int .i32 0,.int .i32 0]),2,8):=by kernel_rfl
theorem own_drewN {w:World} {b e size n:Nat} {v:Value} {xs:List Value} (h:w.ownsRow b e size v n xs) (k:Nat):(w.drewN k).ownsRow b e size v n xs:=h
theorem below_drewN {B:Nat} {w w':World} (h:Below B w w') (n:Nat):Below B w (w'.drewN n):=⟨h.os,h.tape,h.output,h.size,h.block⟩
theorem two_news (wr:World) (o:Obj) (nq:Nat) (x:Nat × Nat):∀ j u,([.int .i32 (x.1:Int),.int .i32 (x.2:Int)]:List Value)[j]?=some u→(((wr.alloc o).drewN nq).alloc (.cells #[.int .i32 (x.1:Int),.int .i32 (x.2:Int)] 197)).cell? ((⟨wr.heap.size + 1,0,none⟩:Addr).add j)=some u:=by
  have h:=World.news_of_block (cs:=#[.int .i32 (x.1:Int),.int .i32 (x.2:Int)]) (t:=197) (fr:=(0,0)) (heap_alloc_new ((wr.alloc o).drewN nq) (.cells #[.int .i32 (x.1:Int),.int .i32 (x.2:Int)] 197))
  rw [show ((wr.alloc o).drewN nq).heap.size=wr.heap.size + 1 by simp] at h
  exact h
theorem add_tail {w wr X w6:World} {va v1 vs:Value} {ns:Nat} {xs:List Value} (hX:Below wr.heap.size wr X) (hsz:wr.heap.size≤X.heap.size) (hbw:Below w.heap.size w wr) (hos:wr.ownsRow w.heap.size 197 2 vs ns xs)
    (hva:∀ j,va.ownBlock=some j→w.heap.size≤j∧j < wr.heap.size) (hap:∀ j,va.ownBlock=some j→vs.ownBlock ≠ some j) (hg:X.grownBy w6 va.ownBlock) (hat:v1.ownBlock=va.ownBlock ∨ v1.ownBlock=some X.heap.size) :
    w6.ownsRow w.heap.size 197 2 vs ns xs∧(∀ j,v1.ownBlock=some j→vs.ownBlock ≠ some j)∧Below w.heap.size w w6:=by
  have key:∀ k,k < wr.heap.size→va.ownBlock ≠ some k→w6.heap[k]?=wr.heap[k]?:=fun k hk hn =>
    (hg.block k (by omega) (fun e=>hn e.symm)).trans (hX.block k hk)
  refine ⟨?_,?_,?_⟩
  · obtain ⟨h1,h2⟩:=hos
    refine ⟨h1,?_⟩
    rcases h2 with h2 | ⟨g,cap,cur,rfl,h3,h4,h5⟩
    · exact .inl h2
    · exact .inr ⟨g,cap,cur,rfl,h3,by rw [key g (lt_of_block h4) (fun e=>hap g e rfl)];exact h4,h5⟩
  · intro j hj hs
    rcases hat with e | e
    · exact hap j (e ▸ hj) hs
    · have e2:X.heap.size=j:=by rw [hj] at e;simpa using e.symm
      have:=(hos.lt j hs).2
      omega
  · have hb6:Below w.heap.size wr w6:=⟨hg.os.trans hX.os,hg.tape.trans hX.tape,hg.output.trans hX.output,Nat.le_trans hX.size hg.size,fun k hk=>key k (Nat.lt_of_lt_of_le hk hbw.size) (fun e=>by have:=(hva k e).1;omega)⟩
    exact hbw.trans hb6
set_option maxRecDepth 100000 in
set_option maxHeartbeats 2000000 in
theorem ordered_any (w:World) (rs:List (Nat × Nat)) (v:Value) (h:w.ownsRow 0 197 2 v rs.length (rc rs)) (hn:rs.length≤100000) (hle:∀ r ∈ rs,r.1≤r.2) (hbd:∀ r ∈ rs,r.2≤1114111) :
    Calls Tryz.prog 159 #[v] w fun e w'=>∃ v' rs',e=.returned v'∧w'.ownsRow w.heap.size 197 2 v' rs'.length (rc rs')∧Below w.heap.size w w'∧SetOk rs' rs:=by
  obtain ⟨i0,hi,hz0,hz1,hz2⟩:=info_parts infoRg
  have hC:=clone_any w rs v h hn
  go_enter Tryz.func159,Tryz.ntmps159
  go_wp2_with (first
    | (go_at_call 165;refine hC.mono ?_;rintro e w1 ⟨v1,rfl,ho1,hb1⟩;have hS:=sort_all w1 w.heap.size v1 rs hb1.size ho1 hn)
    | (go_at_call 166;refine hS.mono ?_;rintro e w2 ⟨rfl,rs1,hp1,hw1,ho2,hb2⟩;have hl1:=hp1.length_eq;obtain ⟨sa,sc,hve⟩  :=Rf.own_len ho2;subst hve))
  have hb02:Below w.heap.size w w2:=hb1.trans hb2
  have HP:Hid _:=And.intro hp1 hw1
  have hle1:∀ r ∈ rs1,r.1≤r.2:=fun r hr=>hle r (hp1.mem_iff.1 hr)
  have hbd1:∀ r ∈ rs1,r.2≤1114111:=fun r hr=>hbd r (hp1.mem_iff.1 hr)
  clear hC hS ho1 hb1 hb2 hle hbd h
  go_loopw [4,14] (fun va vk wr=>∃ k:Nat,vk=.int .i64 k∧k≤rs.length∧wr.ownsRow w.heap.size 197 2 va (G.melds (rs1.take k)).length (rc (G.melds (rs1.take k))) ∧
      wr.ownsRow w.heap.size 197 2 (.slice sa rs.length sc) rs.length (rc rs1)∧(∀ j,va.ownBlock=some j→(Value.slice sa rs.length sc).ownBlock ≠ some j)∧Below w.heap.size w wr) (fun _ vk _=>rs.length - (intOf vk).toNat)
  case atStart=>exact ⟨0,rfl,Nat.zero_le _,World.ownsRow_nil _ _ _ _,ho2,fun j e=>by simp [Value.ownBlock] at e,hb02⟩
  case round =>
    obtain ⟨k,rfl,hk,hoa,hos,hap,hbw⟩:=hrel
    by_cases hkn:k < rs.length
    · have hx:rs1[k]?=some (rs1[k]'(by omega)):=List.getElem?_eq_getElem _
      generalize rs1[k]'(by omega)=x at hx
      obtain ⟨gs,caps,hvs,_,_⟩:=hos.form (by omega)
      simp only [Value.slice.injEq] at hvs
      obtain ⟨rfl,_,rfl⟩:=hvs
      have cs0:wr.cell? ⟨gs,k * 2,none⟩=some (.int .i32 (x.1:Int)):=own_cell' hos (k * 2 + 0) ((rc_get rs1 k 0 x hx (by omega)).trans rfl)
      have cs1:wr.cell? ⟨gs,k * 2 + 1,none⟩=some (.int .i32 (x.2:Int)):=own_cell' hos (k * 2 + 1) ((rc_get rs1 k 1 x hx (by omega)).trans rfl)
      have hxb:=hbd1 x (List.mem_of_getElem? hx)
      have hxl:=hle1 x (List.mem_of_getElem? hx)
      have het:rs1.take (k + 1)=rs1.take k ++ [x]:=by rw [List.take_add_one,hx];rfl
      have hml:G.melds (rs1.take (k + 1))=G.meld (G.melds (rs1.take k)) x:=by rw [het,G.melds_snoc]
      have hmb:=melds_bd 1114111 rs1 hbd1 k (by omega)
      have HM:Hid _:=hml
      clear hml het
      generalize G.melds (rs1.take k)=acc at *
      have hacl:acc.length≤100000:=by omega
      have hlb:=hbw.size
      rcases G.snoc_cases acc with rfl | ⟨i,l,rfl⟩
      · obtain ⟨aa,ac,hae⟩:=Rf.own_len hoa
        subst hae
        have hd:decide ((0:Int) > 0)=false:=rfl
        go_wp2
        go_quiet (fail)
        go_wp2_with (first
          | (at_builtin
             refine wpList_append_own_at _ rfl (.tmp 47) (.tmp 49) 145 rfl w.heap.size 197 i0 (.agg #[.int .i32 0,.int .i32 0]) 2 8 Tryz.underlying145 hi hz0 hz1 hz2 rfl (by decide) (.slice aa ([]:List (Nat × Nat)).length ac) ([]:List (Nat × Nat)).length (rc ([]:List (Nat × Nat))) rfl ((own_drewN (hoa.alloc _) _).alloc _) ⟨wr.heap.size + 1,0,none⟩ 1 1 [.int .i32 (x.1:Int),.int .i32 (x.2:Int)] rfl rfl (two_news wr (.cells #[.int .i32 (x.1:Int),.int .i32 (x.2:Int)] 197) nq x) (renc_one x) (by unfold maxLen;omega) (by omega) (by have:=hbw.size;simp;omega) ?_
             intro v1 w6 hn1 hg1 _ hat1
             have HT:Hid _:=And.intro hn1 (add_tail ((below_drewN ((Below.refl _ wr).alloc (Nat.le_refl _) _) nq).alloc (by simp) _) (by simp;omega) hbw hos (fun j e=>hoa.lt j e) hap hg1 hat1)
             clear hn1 hg1 hat1))
        refine ⟨⟨k + 1,by go_num,by omega,?_,HT.out.2.1,HT.out.2.2.1,HT.out.2.2.2⟩,by simp [intOf];omega⟩
        rw [HM.out,G.meld_nil]
        exact HT.out.1
      · obtain ⟨ga,capa,hva,hga,_⟩:=hoa.form (by simp)
        subst hva
        have hli:(i ++ [l]).length=i.length + 1:=by simp
        have hlb2:l.2≤1114111:=hmb.1 l (by simp)
        have hlx:(i ++ [l])[i.length]?=some l:=by simp
        have ca1:wr.cell? ⟨ga,i.length * 2 + 1,none⟩=some (.int .i32 (l.2:Int)):=own_cell' hoa (i.length * 2 + 1) ((rc_get (i ++ [l]) i.length 1 l hlx (by omega)).trans rfl)
        have hgl:ga < wr.heap.size:=(hoa.lt ga rfl).2
        rw [hli] at hoa hap hacl
        have hil:i.length≤100000:=by omega
        have hd:decide ((i.length:Int) + 1 > 0)=true:=by simp
        have hs1:(i.length:Int) + 1 - 1=(i.length:Int):=by omega
        by_cases hc:x.1≤l.2
        · have hc':(x.1:Int)≤(l.2:Int):=by omega
          go_wp2
          have ca2:(wr.alloc (.cells #[.int .i32 (x.1:Int),.int .i32 (x.2:Int)] 197)).cell? ⟨ga,i.length * 2 + 1,none⟩=some (.int .i32 (l.2:Int)):=Lib.cell?_alloc_some _ ca1
          go_quiet (fail)
          go_wp2
          have oW:=own_drewN (hoa.alloc (.cells #[.int .i32 (x.1:Int),.int .i32 (x.2:Int)] 197)) nq
          have oS:=own_drewN (hos.alloc (.cells #[.int .i32 (x.1:Int),.int .i32 (x.2:Int)] 197)) nq
          have hWs:((wr.alloc (.cells #[.int .i32 (x.1:Int),.int .i32 (x.2:Int)] 197)).drewN nq).heap.size=wr.heap.size + 1:=by simp
          have hWb:=below_drewN ((Below.refl _ wr).alloc (Nat.le_refl _) (.cells #[.int .i32 (x.1:Int),.int .i32 (x.2:Int)] 197)) nq
          have b1:((wr.alloc (.cells #[.int .i32 (x.1:Int),.int .i32 (x.2:Int)] 197)).drewN nq).cell? ⟨wr.heap.size,1,none⟩=some (.int .i32 (x.2:Int)):=Rf.cell_blk (heap_alloc_new wr _) 1 _ rfl
          have b2:((wr.alloc (.cells #[.int .i32 (x.1:Int),.int .i32 (x.2:Int)] 197)).drewN nq).cell? ⟨ga,i.length * 2 + 1,none⟩=some (.int .i32 (l.2:Int)):=ca2
          have hfz:∀ o,((wr.alloc (.cells #[.int .i32 (x.1:Int),.int .i32 (x.2:Int)] 197)).drewN nq).frozen? ⟨ga,o,none⟩=false:=fun o=>own_frozen oW o
          have hidx:(i.length:Int) < ((i ++ [l]).length:Int):=by rw [hli];omega
          generalize ((wr.alloc (.cells #[.int .i32 (x.1:Int),.int .i32 (x.2:Int)] 197)).drewN nq)=W at *
          clear ca1 ca2 cs0 cs1
          have HW:Hid _:=And.intro oW (And.intro oS (And.intro hWs hWb))
          clear oW oS hWs hWb
          have HR:Hid _:=And.intro hoa (And.intro hos (And.intro hap hbw))
          clear hoa hos hap hbw ho2 hb02 hle1 hbd1 hp1 hw1 hmb hx
          go_region
          all_goals
            go_wp2
            have emax:max (l.2:Int) (x.2:Int)=((max l.2 x.2:Nat):Int):=by omega
            rw [emax]
            obtain ⟨oW,oS,hWs,hWb⟩:=HW.out
            obtain ⟨hoa,hos,hap,hbw⟩:=HR.out
            refine ⟨⟨k + 1,by go_num,by omega,?_,?_,?_,?_⟩,by simp [intOf];omega⟩
            · rw [HM.out,G.meld_in i l x hc]
              have h1:=own_set oW (i.length * 2 + 1) (.int .i32 ((max l.2 x.2:Nat):Int)) (by omega)
              rw [rc_put] at h1
              have h3:(W.setCell ⟨ga,i.length * 2 + 1,none⟩ (.int .i32 ((max l.2 x.2:Nat):Int))).ownsRow w.heap.size 197 2 (.slice (some ⟨ga,0,none⟩) (i ++ [l]).length capa) (i ++ [(l.1,max l.2 x.2)]).length (rc (i ++ [(l.1,max l.2 x.2)])):=by simpa using h1
              exact h3
            · exact own_same_at oS (fun j e=>(Below.heap_setCell _ _ _ _ (fun e2=>hap ga rfl (by rw [e2] at e;exact e))))
            · intro j e
              exact hap j (by simpa [Value.ownBlock] using e)
            · exact hbw.trans ⟨hWb.os,hWb.tape,hWb.output,by show _≤(W.setCell _ _).heap.size;simpa [World.setCell] using hWb.size,fun j hj=>(Below.heap_setCell _ _ _ _ (fun e2=>by have h1:=(hoa.lt ga rfl).1;have h2:j=ga:=e2;omega)).trans (hWb.block j (by omega))⟩
        · have hc':¬ (x.1:Int)≤(l.2:Int):=by omega
          have hcb:decide ((x.1:Int)≤(l.2:Int))=false:=by simpa using hc
          go_wp2
          have ca2:(wr.alloc (.cells #[.int .i32 (x.1:Int),.int .i32 (x.2:Int)] 197)).cell? ⟨ga,i.length * 2 + 1,none⟩=some (.int .i32 (l.2:Int)):=Lib.cell?_alloc_some _ ca1
          go_quiet (fail)
          go_wp2_with (first
            | (at_builtin
               refine wpList_append_own_at _ rfl (.tmp 47) (.tmp 49) 145 rfl w.heap.size 197 i0 (.agg #[.int .i32 0,.int .i32 0]) 2 8 Tryz.underlying145 hi hz0 hz1 hz2 rfl (by decide) (.slice (some ⟨ga,0,none⟩) (i.length + 1) capa) (i.length + 1) (rc (i ++ [l])) rfl ((own_drewN (hoa.alloc _) _).alloc _) ⟨wr.heap.size + 1,0,none⟩ 1 1 [.int .i32 (x.1:Int),.int .i32 (x.2:Int)] rfl rfl (two_news wr (.cells #[.int .i32 (x.1:Int),.int .i32 (x.2:Int)] 197) nq x) (renc_one x) (by unfold maxLen;omega) (by omega) (by have:=hbw.size;simp;omega) ?_
               intro v1 w6 hn1 hg1 _ hat1
               have HT:Hid _:=And.intro hn1 (add_tail ((below_drewN ((Below.refl _ wr).alloc (Nat.le_refl _) _) nq).alloc (by simp) _) (by simp;omega) hbw hos (fun j e=>hoa.lt j e) hap hg1 hat1)
               clear hn1 hg1 hat1))
          refine ⟨⟨k + 1,by go_num,by omega,?_,HT.out.2.1,HT.out.2.2.1,HT.out.2.2.2⟩,by simp [intOf];omega⟩
          rw [HM.out,G.meld_out i l x hc,rc_snoc]
          have e3:(i ++ [l] ++ [x]).length=i.length + 1 + 1:=by simp
          rw [e3]
          exact HT.out.1
    · have hkk:k=rs.length:=by omega
      subst hkk
      have hme:=G.melds_sep rs1 rs.length (by omega) HP.out.2 hle1
      have hmb:=melds_bd 1114111 rs1 hbd1 rs.length (by omega)
      rw [List.take_of_length_le (by omega)] at hoa hme hmb
      have HX:Hid (SetOk (G.melds rs1) rs):=⟨hme.1,hmb.1,fun c=>by rw [hme.2.2 c];exact HP.out.1.any_eq,hmb.2⟩
      have HY:Hid _:=And.intro hoa hbw
      clear hme hmb hoa hos hap hbw ho2
      go_wp2
      go_ret
      exact ⟨_,_,rfl,HY.out.1,HY.out.2,HX.out⟩
end Pr
end Go.Proofs.YtpgcidpghmoibaaGreatDoor
