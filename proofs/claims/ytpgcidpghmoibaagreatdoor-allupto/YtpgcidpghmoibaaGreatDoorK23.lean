/-
  THE REFERENCE's Match
  THE REFERENCE's Cut
-/
import Derived.Test.YtpgcidpghmoibaaGreatDoorK20
import Derived.Test.YtpgcidpghmoibaaGreatDoorK22
namespace Go.Proofs.YtpgcidpghmoibaaGreatDoor
namespace Rf
open Go.RowKit
open G (PNode Lang)
theorem own_cap {w:World} {b e size n c:Nat} {a:Option Addr} {xs:List Value} (h:w.ownsRow b e size (.slice a n c) n xs):n≤c:=by
  rcases h.2 with ⟨h1,h2⟩ | ⟨g,cap,cur,h1,_,_,h2,_⟩
  · omega
  · simp only [Value.slice.injEq] at h1
    omega
set_option maxRecDepth 100000 in
theorem place_any (w:World) (s:ByteArray) (_hs:s.size≤1000) (pa:Option Addr) (pc k:Nat) (hv:w.ownsRow 0 3 1 (.slice pa (U.units s).length pc) (U.units s).length (U.starts64 (U.units s))) :
    Calls Tryz.prog 87 #[.string s,.slice pa (U.units s).length pc,.int .i64 (k:Int)] w fun e w'=>e=.returned (.int .i64 (G.edge s k:Int))∧w'=w:=by
  have hul:=U.units_length s
  by_cases hk:k < (U.units s).length
  · have hx:(U.units s)[k]?=some ((U.units s)[k]'hk):=List.getElem?_eq_getElem hk
    generalize (U.units s)[k]'hk=x at hx
    have HE:Hid (G.edge s k=x.2):=G.edge_of hx
    obtain ⟨g,cap,he,_,_⟩:=hv.form (by omega)
    simp only [Value.slice.injEq] at he
    obtain ⟨rfl,_,rfl⟩:=he
    have c0:w.cell? ⟨g,k,none⟩=some (.int .i64 (x.2:Int)):=own_cell' hv k (by simp [U.starts64,hx])
    generalize (U.units s).length=n at *
    go_enter Tryz.func87,Tryz.ntmps87
    go_wp2
    go_ret
    rw [HE.out]
    exact ⟨rfl,rfl⟩
  · have HE:Hid (G.edge s k=s.size):=G.edge_end s k (by rw [G.us_len];omega)
    generalize (U.units s).length=n at *
    go_enter Tryz.func87,Tryz.ntmps87
    go_wp2
    go_ret
    rw [HE.out]
    exact ⟨rfl,rfl⟩
theorem uat_drop {w:World} {s:ByteArray} {g cap:Nat} (hv:w.ownsRow 0 3 1 (.slice (some ⟨g,0,none⟩) (U.units s).length cap) (U.units s).length (U.runes64 (U.units s))) (k H:Nat) (hH:g < H):UAt w (some ⟨g,k,none⟩) ((G.us s).drop k) H:=
  ⟨fun i c hc=>by
    rw [List.getElem?_drop] at hc
    refine ⟨g,k,rfl,hH,own_cell' hv (k + i) ?_⟩
    unfold G.us at hc
    rw [List.getElem?_map] at hc
    unfold U.runes64
    rw [List.getElem?_map]
    cases hx:(U.units s)[k + i]? with
    | none=>rw [hx] at hc;simp at hc
    | some x=>rw [hx] at hc;simp only [Option.map_some,Option.some.injEq] at hc ⊢;rw [hc]⟩
structure RIn (w:World) (b:Nat) (T:List PNode) (Q:List Nat) (L:List PState) (B F:List Nat) (I:Nat→Prop):Prop where
  at':RfAt w b T Q L B F I
  all:AllS T Q L B F
  ll:L.length≤100000
  nl:T.length≤100000
  rl:∀ y ∈ T,y.ranges.length≤100000
  ql:Q.length≤100000
theorem RIn.below {w w':World} {b:Nat} {T:List PNode} {Q:List Nat} {L:List PState} {B F:List Nat} {I:Nat→Prop} (h:RIn w b T Q L B F I) (hb:Below w.heap.size w w'):RIn w' b T Q L B F I:=⟨h.at'.below hb,h.all,h.ll,h.nl,h.rl,h.ql⟩
theorem RIn.longest {w:World} {b:Nat} {T:List PNode} {Q:List Nat} {L:List PState} {B F:List Nat} {I:Nat→Prop} (h:RIn w b T Q L B F I) (us:List Int) (hul:us.length≤100000) (pu:Option Addr) (cu:Nat) (hU:UAt w pu us w.heap.size) :
    Calls Tryz.prog 88 #[.pointer (some ⟨b,0,none⟩),.slice pu us.length cu] w fun e w'=>(∃ (n:Nat) (r:Int),e=.returned (.tuple #[.int .i64 (n:Int),.int .i64 r])∧G.Long T Q us n r)∧Below w.heap.size w w':=
  longest_any w b T Q L B F I h.at' h.all h.ll h.nl h.rl h.ql us hul pu cu hU
def MatchV (T:List PNode) (Q:List Nat) (s:ByteArray) (a:Int) (g:G.Seg):Prop:=∃ k n r,G.UnitAt s a k∧G.Long T Q ((G.us s).drop k) n r∧g=⟨G.edge s k,G.edge s (k + n),r⟩
set_option maxRecDepth 100000 in
set_option maxHeartbeats 1000000 in
theorem rmatch_long (w:World) (b:Nat) (s:ByteArray) (a:Int) (hs:1000 < s.size) (hm:s.size≤maxLen) :
    Calls Tryz.prog 57 #[.pointer (some ⟨b,0,none⟩),.string s,.int .i64 a] w fun e w'=>e=.returned (.tuple #[.agg #[.int .i64 0,.int .i64 0,.int .i64 0],.int .i64 1])∧Below w.heap.size w w':=by
  go_enter Tryz.func57,Tryz.ntmps57
  go_wp2_with (go_at_call 86;refine (runits_long s _ hs hm).mono ?_;rintro e w2 ⟨rfl,rfl⟩)
  exact bodyPost_ret (v:=.tuple #[.agg #[.int .i64 0,.int .i64 0,.int .i64 0],.int .i64 1]) (by simp [results,Tryz.results57,go_sem]) rfl ⟨rfl,(Below.refl _ w).alloc (Nat.le_refl _) _⟩
set_option maxRecDepth 100000 in
set_option maxHeartbeats 600000 in
theorem rmatch_short (w:World) (b:Nat) (T:List PNode) (Q:List Nat) (L:List PState) (B F:List Nat) (I:Nat→Prop) (hR:RIn w b T Q L B F I) (s:ByteArray) (a:Int) (hs:s.size≤1000) :
    Calls Tryz.prog 57 #[.pointer (some ⟨b,0,none⟩),.string s,.int .i64 a] w fun e w'=>(∃ g:G.Seg,MatchV T Q s a g∧e=.returned (.tuple #[.agg #[.int .i64 (g.f:Int),.int .i64 (g.t:Int),.int .i64 g.r],.int .i64 0]))∧Below w.heap.size w w':=by
  have hul:=U.units_length s
  have hbx:=heap_alloc_new w (.cells #[.int .i64 0,.int .i64 0,.int .i64 0] 65)
  have HBX:Hid _:=hbx
  clear hbx
  go_enter Tryz.func57,Tryz.ntmps57
  go_wp2_with (go_at_call 86;refine (runits_short s _ hs).mono ?_;rintro e w2 ⟨v1,v2,rfl,ho1,ho2,hb2⟩;obtain ⟨p1,c1,he1⟩:=own_len ho1;obtain ⟨p2,c2,he2⟩:=own_len ho2;subst he1 he2)
  have hbx2:=(hb2.block w.heap.size (by simp)).trans HBX.out
  have o1:=own_zero ho1
  have o2:=own_zero ho2
  have hbw:Below w.heap.size w w2:=((Below.refl _ w).alloc (Nat.le_refl _) _).trans (hb2.mono (by simp))
  have HB:Hid _:=hbw
  clear ho1 ho2 hb2 hbw HBX
  have hpl:=fun k=>place_any w2 s hs p2 c2 k o2
  go_loop [11] (fun vi=>∃ k:Nat,vi=.int .i64 k∧k≤(U.units s).length∧∀ j,1≤j→j≤k→(G.edge s j:Int)≤a) (fun vi=>(U.units s).length - (intOf vi).toNat)
  case atStart=>exact ⟨0,rfl,Nat.zero_le _,fun j h1 h2=>by omega⟩
  case round =>
    obtain ⟨k,rfl,hk,hall⟩:=hrel
    have HA:Hid _:=hall
    clear hall
    by_cases hgo:k < (U.units s).length∧(G.edge s (k + 1):Int)≤a
    · obtain ⟨hlt,hle⟩:=hgo
      have hp1:=hpl (k + 1)
      go_wp2_with (go_at_call 87;refine hp1.mono ?_;rintro e w3 ⟨rfl,rfl⟩)
      refine ⟨⟨k + 1,by go_num,by omega,fun j h1 h2=>?_⟩,by simp [intOf];omega⟩
      by_cases e:j=k + 1
      · rw [e];exact hle
      · exact HA.out j h1 (by omega)
    · have hUn:G.UnitAt s a k:=⟨by rw [G.us_len];exact hk,HA.out,fun h=>by rw [G.us_len] at h;omega⟩
      have HU:Hid _:=hUn
      clear hUn
      have hR2:=hR.below HB.out
      have hsd:((G.us s).drop k).length=(U.units s).length - k:=by rw [List.length_drop,G.us_len]
      have hz:=hbx2
      have hxl:=lt_of_block hbx2
      by_cases hlt:k < (U.units s).length
      · have hnle:¬ (G.edge s (k + 1):Int)≤a:=fun h=>hgo ⟨hlt,h⟩
        clear hgo
        have hp1:=hpl (k + 1)
        obtain ⟨g1,cap1,hf,_,_⟩:=o1.form (by omega)
        simp only [Value.slice.injEq] at hf
        obtain ⟨rfl,_,rfl⟩:=hf
        have hcl:=own_cap o1
        have hck:¬ c1=k:=by omega
        have hLo:=hR2.longest ((G.us s).drop k) (by rw [hsd];omega) (some ⟨g1,k,none⟩) (c1 - k) (uat_drop o1 k _ (o1.lt g1 rfl).2)
        rw [hsd] at hLo
        have hp4:∀ w4,Below w2.heap.size w2 w4→∀ j:Nat,Calls Tryz.prog 87 #[.string s,.slice p2 (U.units s).length c2,.int .i64 (j:Int)] w4 fun e w'=>e=.returned (.int .i64 (G.edge s j:Int))∧w'=w4:=fun w4 hb j=>place_any w4 s hs p2 c2 j (own_same o2 (fun i e=>hb.block i (o2.lt i e).2))
        go_wp2_with (first
          | (go_at_call 87;refine hpn.mono ?_;rintro e w3 ⟨rfl,rfl⟩)
          | (go_at_call 87;refine hpk.mono ?_;rintro e w3 ⟨rfl,rfl⟩;have hpn:=hp4 _ hb4 (k + n);rw [Int.natCast_add] at hpn)
          | (go_at_call 88;refine hLo.mono ?_;rintro e w4 ⟨⟨n,r,rfl,hLn⟩,hb4⟩;have hpk:=hp4 w4 hb4 k;have hnl:=hLn.le;rw [hsd] at hnl;have bx4:=(hb4.block _ hxl).trans hbx2;have z0:=cell_blk bx4 0 _ rfl;have z1:=cell_blk bx4 1 _ rfl;have z2:=cell_blk bx4 2 _ rfl;have zf:=fun o=>free_blk bx4 o)
          | (go_at_call 87;refine hp1.mono ?_;rintro e w3 ⟨rfl,rfl⟩))
        refine bodyPost_ret (v:=.tuple #[.agg #[.int .i64 (G.edge s k:Int),.int .i64 (G.edge s (k + n):Int),.int .i64 r],.int .i64 0]) (by simp [results,Tryz.results57,go_sem,z0,z1,z2]) rfl ⟨⟨⟨_,_,r⟩,⟨k,n,r,HU.out,hLn,rfl⟩,rfl⟩,?_⟩
        exact (((HB.out.trans (hb4.mono HB.out.size)).setCell (by simp) _).setCell (by simp) _).setCell (by simp) _
      · have e:k=(U.units s).length:=by omega
        subst e
        have hLo:∀ pu cu,Calls Tryz.prog 88 #[.pointer (some ⟨b,0,none⟩),.slice pu 0 cu] w2 fun e w'=>(∃ (n:Nat) (r:Int),e=.returned (.tuple #[.int .i64 (n:Int),.int .i64 r])∧G.Long T Q [] n r)∧Below w2.heap.size w2 w':=fun pu cu=>hR2.longest [] (by simp) pu cu ⟨fun i c hc=>by simp at hc⟩
        have hcl:=own_cap o1
        have hp4:∀ w4,Below w2.heap.size w2 w4→∀ j:Nat,Calls Tryz.prog 87 #[.string s,.slice p2 (U.units s).length c2,.int .i64 (j:Int)] w4 fun e w'=>e=.returned (.int .i64 (G.edge s j:Int))∧w'=w4:=fun w4 hb j=>place_any w4 s hs p2 c2 j (own_same o2 (fun i e=>hb.block i (o2.lt i e).2))
        have hdr:(G.us s).drop (U.units s).length=[]:=by rw [← G.us_len];exact List.drop_length
        clear hgo hsd
        rcases o1.2 with ⟨hv0,hn0⟩ | ⟨g1,cap1,cur,hv0,_⟩
        · simp only [Value.slice.injEq] at hv0
          obtain ⟨rfl,_,rfl⟩:=hv0
          have HH:Hid _:=And.intro hdr HU.out
          clear hdr HU HA
          simp only [hn0] at hp4 HH hLo hk hlt ⊢
          go_wp2_with (first
            | (go_at_call 87;refine hpk.mono ?_;rintro e w3 ⟨rfl,rfl⟩)
            | (go_at_call 88;refine (hLo _ _).mono ?_;rintro e w4 ⟨⟨n,r,rfl,hLn⟩,hb4⟩;have hpk:=hp4 w4 hb4 0;rw [show ((0:Nat):Int)=0 from rfl] at hpk;have hnl:=hLn.le;rw [List.length_nil] at hnl;obtain rfl:n=0:=(by omega);have bx4:=(hb4.block _ hxl).trans hbx2;have z0:=cell_blk bx4 0 _ rfl;have z1:=cell_blk bx4 1 _ rfl;have z2:=cell_blk bx4 2 _ rfl;have zf:=fun o=>free_blk bx4 o))
          refine bodyPost_ret (v:=.tuple #[.agg #[.int .i64 (G.edge s 0:Int),.int .i64 (G.edge s 0:Int),.int .i64 r],.int .i64 0]) (by simp [results,Tryz.results57,go_sem,z0,z1,z2]) rfl ⟨⟨⟨_,_,r⟩,⟨0,0,r,HH.out.2,by rw [HH.out.1];exact hLn,rfl⟩,rfl⟩,?_⟩
          exact (((HB.out.trans (hb4.mono HB.out.size)).setCell (by simp) _).setCell (by simp) _).setCell (by simp) _
        · simp only [Value.slice.injEq] at hv0
          obtain ⟨rfl,_,rfl⟩:=hv0
          have HH:Hid _:=And.intro hdr HU.out
          clear hdr HU HA
          clear hpl o1 o2
          generalize (U.units s).length=N at *
          by_cases hcN:c1=N
          all_goals
            go_wp2_with (first
              | (go_at_call 87;refine hpk.mono ?_;rintro e w3 ⟨rfl,rfl⟩)
              | (go_at_call 88;refine (hLo _ _).mono ?_;rintro e w4 ⟨⟨n,r,rfl,hLn⟩,hb4⟩;have hpk:=hp4 w4 hb4 N;have hnl:=hLn.le;rw [List.length_nil] at hnl;obtain rfl:n=0:=(by omega);have bx4:=(hb4.block _ hxl).trans hbx2;have z0:=cell_blk bx4 0 _ rfl;have z1:=cell_blk bx4 1 _ rfl;have z2:=cell_blk bx4 2 _ rfl;have zf:=fun o=>free_blk bx4 o))
            refine bodyPost_ret (v:=.tuple #[.agg #[.int .i64 (G.edge s N:Int),.int .i64 (G.edge s N:Int),.int .i64 r],.int .i64 0]) (by simp [results,Tryz.results57,go_sem,z0,z1,z2]) rfl ⟨⟨⟨_,_,r⟩,⟨N,0,r,HH.out.2,by rw [HH.out.1];exact hLn,rfl⟩,rfl⟩,?_⟩
            exact (((HB.out.trans (hb4.mono HB.out.size)).setCell (by simp) _).setCell (by simp) _).setCell (by simp) _
end Rf
end Go.Proofs.YtpgcidpghmoibaaGreatDoor

namespace Go.Proofs.YtpgcidpghmoibaaGreatDoor
namespace Rf
open Go.RowKit
open G (PNode Lang)
def scell3 (g:G.Seg):List Value:=[.int .i64 (g.f:Int),.int .i64 (g.t:Int),.int .i64 g.r]
def segs (l:List G.Seg):List Value:=(l.map scell3).flatten
theorem segs_snoc (l:List G.Seg) (g:G.Seg):segs (l ++ [g])=segs l ++ scell3 g:=by simp [segs]
theorem infoSeg:(Tryz.prog.info? 65).map (fun i=>(i.zero,i.size,i.bytes))=some (some (.agg #[.int .i64 0,.int .i64 0,.int .i64 0]),3,24):=by kernel_rfl
set_option maxRecDepth 100000 in
set_option maxHeartbeats 1000000 in
theorem rcut_long (w:World) (b:Nat) (s:ByteArray) (hs:1000 < s.size) (hm:s.size≤maxLen) :
    Calls Tryz.prog 58 #[.pointer (some ⟨b,0,none⟩),.string s] w fun e w'=>e=.returned (.tuple #[.slice none 0 0,.int .i64 1])∧w'=w:=by
  go_enter Tryz.func58,Tryz.ntmps58
  go_wp2_with (go_at_call 86;refine (runits_long s _ hs hm).mono ?_;rintro e w2 ⟨rfl,rfl⟩)
  go_ret2
  exact ⟨rfl,rfl⟩
theorem own_sameB {w w':World} {b e size n:Nat} {v:Value} {xs:List Value} (h:w.ownsRow b e size v n xs) (hk:∀ k,v.ownBlock=some k→w'.heap[k]?=w.heap[k]?):w'.ownsRow b e size v n xs:=by
  refine ⟨h.1,?_⟩
  rcases h.2 with h1 | ⟨g,cap,cur,rfl,h2,h3,h4⟩
  · exact .inl h1
  · exact .inr ⟨g,cap,cur,rfl,h2,(hk g rfl).trans h3,h4⟩
structure CInv (w w2:World) (T:List PNode) (Q:List Nat) (s:ByteArray) (k:Nat) (l:List G.Seg) (v:Value) (wr:World):Prop where
  be:Below w2.heap.size w2 wr
  row:wr.ownsRow w2.heap.size 65 3 v l.length (segs l)
  cut:G.CutTo T Q s k l
set_option maxRecDepth 100000 in
set_option maxHeartbeats 800000 in
theorem rcut_short (w:World) (b:Nat) (T:List PNode) (Q:List Nat) (L:List PState) (B F:List Nat) (I:Nat→Prop) (hR:RIn w b T Q L B F I) (s:ByteArray) (hs:s.size≤1000) :
    Calls Tryz.prog 58 #[.pointer (some ⟨b,0,none⟩),.string s] w fun e w'=>(∃ v l,e=.returned (.tuple #[v,.int .i64 0])∧G.CutR T Q s 0 l∧w'.ownsRow w.heap.size 65 3 v l.length (segs l))∧Below w.heap.size w w':=by
  obtain ⟨i0,hi,hz⟩:=Option.map_eq_some_iff.1 infoSeg
  simp only [Prod.mk.injEq] at hz
  obtain ⟨hz0,hz1,hz2⟩:=hz
  have hul:=U.units_length s
  go_enter Tryz.func58,Tryz.ntmps58
  go_wp2_with (go_at_call 86;refine (runits_short s _ hs).mono ?_;rintro e w2 ⟨v1,v2,rfl,ho1,ho2,hb2⟩;obtain ⟨p1,c1,he1⟩:=own_len ho1;obtain ⟨p2,c2,he2⟩:=own_len ho2;subst he1 he2)
  have o1:=own_zero ho1
  have o2:=own_zero ho2
  have hR2:=hR.below hb2
  have hz2':=hb2.size
  clear ho1 ho2
  go_loopw [9,10,11,12] (fun vo vk _ _ wr=>∃ (k:Nat) (l:List G.Seg),vk=.int .i64 k∧CInv w w2 T Q s k l vo wr) (fun _ vk _ _ _=>(U.units s).length - (intOf vk).toNat)
  case atStart=>exact ⟨0,[],rfl,Below.refl _ _,World.ownsRow_nil _ _ _ _,G.CutTo.zero _ _ _⟩
  case round =>
    obtain ⟨k,l,rfl,hC⟩:=hrel
    have hsd:((G.us s).drop k).length=(U.units s).length - k:=by rw [List.length_drop,G.us_len]
    have hlk:=hC.cut.2.1
    have hkk:=hC.cut.1
    rw [G.us_len] at hkk
    have hbs:=hC.be.size
    by_cases hlt:k < (U.units s).length
    · obtain ⟨g1,cap1,hf,_,_⟩:=o1.form (by omega)
      simp only [Value.slice.injEq] at hf
      obtain ⟨rfl,_,rfl⟩:=hf
      have hcl:=own_cap o1
      have hck:¬ c1=k:=by omega
      have o1r:=own_same o1 (fun i e=>hC.be.block i (o1.lt i e).2)
      have hLo:=(hR2.below hC.be).longest ((G.us s).drop k) (by rw [hsd];omega) (some ⟨g1,k,none⟩) (c1 - k) (uat_drop o1r k _ (o1r.lt g1 rfl).2)
      rw [hsd] at hLo
      have hp4:∀ w4,Below wr.heap.size wr w4→∀ j:Nat,Calls Tryz.prog 87 #[.string s,.slice p2 (U.units s).length c2,.int .i64 (j:Int)] w4 fun e w'=>e=.returned (.int .i64 (G.edge s j:Int))∧w'=w4:=fun w4 hb j=>place_any w4 s hs p2 c2 j (own_same o2 (fun i e=>(hb.block i (by have:=(o2.lt i e).2;omega)).trans (hC.be.block i (o2.lt i e).2)))
      have HC:Hid _:=hC
      clear hC
      go_wp2_with (first
        | (at_builtin;(first | (refine wpList_append_own_at _ rfl (.tmp 36) (.tmp 49) 60 rfl w2.heap.size 65 i0 (.agg #[.int .i64 0,.int .i64 0,.int .i64 0]) 3 24 Tryz.underlying60 hi hz0 hz1 hz2 rfl (by decide) _ l.length (segs l) rfl ((own_sameB HC.out.row (fun i e=>hb4.block i (HC.out.row.lt i e).2)).alloc _) ⟨w3.heap.size,0,none⟩ 1 1 [.int .i64 (G.edge s k:Int),.int .i64 (G.edge s (k + n):Int),.int .i64 r] rfl rfl (World.news_of_block (cs:=#[.int .i64 (G.edge s k:Int),.int .i64 (G.edge s (k + n):Int),.int .i64 r]) (t:=65) (fr:=(0,0)) (heap_alloc_new _ _)) (fun y hy=>by simp at hy;rcases hy with rfl | rfl | rfl <;> rfl) (by unfold maxLen;omega) (by omega) (by have:=hb4.size;simp;omega) ?_) | (refine wpList_append_own_at _ rfl (.tmp 36) (.tmp 49) 60 rfl w2.heap.size 65 i0 (.agg #[.int .i64 0,.int .i64 0,.int .i64 0]) 3 24 Tryz.underlying60 hi hz0 hz1 hz2 rfl (by decide) _ l.length (segs l) rfl ((own_sameB HC.out.row (fun i e=>hb4.block i (HC.out.row.lt i e).2)).alloc _) ⟨w3.heap.size,0,none⟩ 1 1 [.int .i64 (G.edge s k:Int),.int .i64 (G.edge s (k + 1):Int),.int .i64 r] rfl rfl (World.news_of_block (cs:=#[.int .i64 (G.edge s k:Int),.int .i64 (G.edge s (k + 1):Int),.int .i64 r]) (t:=65) (fr:=(0,0)) (heap_alloc_new _ _)) (fun y hy=>by simp at hy;rcases hy with rfl | rfl | rfl <;> rfl) (by unfold maxLen;omega) (by omega) (by have:=hb4.size;simp;omega) ?_));intro v5 w5 hn5 hg5 _ hat5)
        | (go_at_call 87;refine hpn.mono ?_;rintro e w3 ⟨rfl,rfl⟩)
        | (go_at_call 87;refine hpk.mono ?_;rintro e w3 ⟨rfl,rfl⟩;(first | (have hpn:=hp4 _ hb4 (k + n);rw [Int.natCast_add] at hpn) | (have hpn:=hp4 _ hb4 (k + 1);rw [Int.natCast_succ] at hpn)))
        | (go_at_call 88
           refine hLo.mono ?_
           rintro e w4 ⟨⟨n,r,rfl,hLn⟩,hb4⟩
           have hpk:=hp4 w4 hb4 k
           have hnl:=hLn.le
           rw [hsd] at hnl
           have HL:Hid (G.Long T Q ((G.us s).drop k) n r):=hLn
           clear hLn
           rcases Nat.eq_zero_or_pos n with rfl | hpos
           rotate_left
           have hn0:((n:Int) == 0)=false:=by simp;omega
           rotate_left))
      · have hlu:k < (G.us s).length:=by rw [G.us_len];exact hlt
        have hst:=HC.out.cut.step hlu HL.out
        rw [show max 0 1=1 by omega] at hst
        have hb5:Below w2.heap.size w2 w5:=Below.grown ((HC.out.be.trans (hb4.mono hbs)).alloc (by have:=hb4.size;omega) _) hg5 (by have:=hb4.size;simp;omega) (fun i e=>(HC.out.row.lt i e).1)
        refine ⟨⟨k + 1,_,by go_num,⟨hb5,?_,hst⟩⟩,by simp [intOf];omega⟩
        rw [segs_snoc,List.length_append,List.length_singleton]
        exact hn5
      · have hlu:k < (G.us s).length:=by rw [G.us_len];exact hlt
        have hst:=HC.out.cut.step hlu HL.out
        rw [show max n 1=n by omega] at hst
        have hb5:Below w2.heap.size w2 w5:=Below.grown ((HC.out.be.trans (hb4.mono hbs)).alloc (by have:=hb4.size;omega) _) hg5 (by have:=hb4.size;simp;omega) (fun i e=>(HC.out.row.lt i e).1)
        refine ⟨⟨k + n,_,by go_num,⟨hb5,?_,hst⟩⟩,by simp [intOf];omega⟩
        rw [segs_snoc,List.length_append,List.length_singleton]
        exact hn5
    · go_wp2
      go_ret2
      have hb:=hC.be
      refine ⟨⟨_,l,rfl,hC.cut.done (by rw [G.us_len];exact hlt),?_⟩,hb2.trans (hb.mono hz2')⟩
      obtain ⟨h1,h2⟩:=hC.row
      refine ⟨h1,?_⟩
      rcases h2 with h2 | ⟨g,cap,cur,h3,h4,h5⟩
      · exact .inl h2
      · exact .inr ⟨g,cap,cur,h3,by omega,h5⟩
end Rf
end Go.Proofs.YtpgcidpghmoibaaGreatDoor
