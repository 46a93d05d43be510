/-
  BOOKS AND ROWS that stand while other memory is written; an empty book
  BOUNDARIES, as plain lists
  CURSORS, as memory
  SEGMENTS in memory
  THE REFERENCE's cursors
  THE FORM OF RULES, without the program
  WHAT THE SOURCE '[a-z]+;' MATCHES, without the program
-/
import Derived.Test.YtpgcidpghmoibaaGreatDoorK24
import Derived.Test.YtpgcidpghmoibaaGreatDoorK20
import Derived.Test.YtpgcidpghmoibaaGreatDoorK02
import Derived.Test.YtpgcidpghmoibaaGreatDoorK23
import Derived.Deep.RegionWith
import Derived.Test.YtpgcidpghmoibaaGreatDoorK08
namespace Go.Proofs.YtpgcidpghmoibaaGreatDoor
open Go.RowKit
theorem Book.same {w w':World} {b c:Nat} {S:Nat→Prop} (h:Book w b S c) (hsz:w.heap.size≤w'.heap.size) (hk:∀ k,k < w.heap.size→S k→w'.heap[k]?=w.heap[k]?):Book w' b S c:=by
  obtain ⟨rL,rM,L,M,BA,h1,h2,h3⟩:=h
  exact ⟨rL,rM,L,M,BA.same hsz (fun k hin=>hk k (BA.inlt k hin) (h3 k hin)),h1,h2,h3⟩
theorem Book.mono {w:World} {b c:Nat} {S T:Nat→Prop} (h:Book w b S c) (hk:∀ k,k < w.heap.size→S k→T k):Book w b T c:=by
  obtain ⟨rL,rM,L,M,BA,h1,h2,h3⟩:=h
  exact ⟨rL,rM,L,M,BA,h1,h2,fun k hin=>hk k (BA.inlt k hin) (h3 k hin)⟩
theorem Book.below {w w':World} {b c:Nat} {S:Nat→Prop} (h:Book w b S c) (hb:Below w.heap.size w w'):Book w' b S c:=h.same hb.size (fun k hk _=>hb.block k hk)
theorem own_kept {p:Nat→Prop} {w w':World} {e size n:Nat} {v:Value} {xs:List Value} (h:w.ownsRow 0 e size v n xs) (hk:Kept p w w') (hp:∀ k,v.ownBlock=some k→p k):w'.ownsRow 0 e size v n xs:=
  own_same h (fun k e=>hk.block k (h.lt k e).2 (hp k e))
theorem own_belowAll {w w':World} {e size n:Nat} {v:Value} {xs:List Value} (h:w.ownsRow 0 e size v n xs) (hb:Below w.heap.size w w'):w'.ownsRow 0 e size v n xs:=
  own_same h (fun k e=>hb.block k (h.lt k e).2)
theorem book_new (w:World) (S:Nat→Prop) (hS:S w.heap.size):Book (w.alloc (.cells #[.int .i64 0,.slice none 0 0,.slice none 0 0,.slice none 0 0,.slice none 0 0,.slice none 0 0,.slice none 0 0] 44)) w.heap.size S 0:=by
  refine ⟨fun _=>.slice none 0 0,fun _=>.slice none 0 0,fun _=>[],fun _=>[],⟨heap_alloc_new w _,fun t=>World.ownsRow_nil _ _ _ _,fun t=>World.ownsRow_nil _ _ _ _,fun t k l m h=>by simp at h,fun t l h=>by simp at h,fun i j _=>Apart.nil _,fun i j _=>Apart.nil _,fun i j=>Apart.nil _,fun i=>by simp [Value.ownBlock],fun i=>by simp [Value.ownBlock],fun t l h=>by simp at h⟩,fun t=>by simp,fun t m h=>by simp at h,?_⟩
  rintro k (rfl | ⟨t,ht⟩ | ⟨t,ht⟩ | ⟨t,l,hl,_⟩)
  · exact hS
  · simp [Value.ownBlock] at ht
  · simp [Value.ownBlock] at ht
  · simp at hl
end Go.Proofs.YtpgcidpghmoibaaGreatDoor

namespace Go.Proofs.YtpgcidpghmoibaaGreatDoor
namespace G
def Chain:Nat→List Seg→Nat→Prop
  | p,[],q=>p=q
  | p,x :: l,q=>x.f=p∧p < x.t∧Chain x.t l q
theorem CutR.chain {T:List PNode} {Q:List Nat} {s:ByteArray} {k:Nat} {l:List Seg} (h:CutR T Q s k l):Chain (edge s k) l s.size:=by
  induction h with
  | done h=>exact edge_end s _ (by omega)
  | @cons k n r l h1 h2 _ ih =>
    have hle:=h2.le
    rw [List.length_drop] at hle
    exact ⟨rfl,edge_strict s (by omega) (by omega),ih⟩
theorem CutR.chain0 {T:List PNode} {Q:List Nat} {s:ByteArray} {l:List Seg} (h:CutR T Q s 0 l):Chain 0 l s.size:=by
  have:=h.chain
  rwa [edge_zero] at this
theorem Chain.le:∀ {p:Nat} {l:List Seg} {q:Nat},Chain p l q→p≤q
  | _,[],_,h=>Nat.le_of_eq h
  | _,_ :: _,_,h=>Nat.le_trans (Nat.le_of_lt h.2.1) h.2.2.le
theorem Chain.above:∀ {p:Nat} {l:List Seg} {q:Nat},Chain p l q→∀ x ∈ l,p < x.t∧p≤x.f∧x.f < x.t∧x.t≤q
  | _,[],_,_,x,hx=>by simp at hx
  | p,y :: l,q,h,x,hx=>by
    have hl:=h.2.2.le
    rcases List.mem_cons.1 hx with rfl | hx
    · have:=h.1
      have:=h.2.1
      omega
    · have h1:=h.2.2.above x hx
      have:=h.2.1
      omega
def bnds (p:Nat) (l:List Seg):List Nat:=p :: l.map (·.t)
theorem bnds_len (p:Nat) (l:List Seg):(bnds p l).length=l.length + 1:=by simp [bnds]
theorem Chain.asc:∀ {p:Nat} {l:List Seg} {q:Nat},Chain p l q→(bnds p l).Pairwise (· < ·)
  | p,[],_,_=>by simp [bnds]
  | p,x :: l,q,h=>by
    have ih:=h.2.2.asc
    unfold bnds at ih ⊢
    refine List.Pairwise.cons (fun b hb=>?_) ih
    obtain ⟨y,hy,rfl⟩:=List.mem_map.1 hb
    exact (h.above y hy).1
theorem asc_lt {B:List Nat} (h:B.Pairwise (· < ·)) {i j x y:Nat} (hij:i < j) (hx:B[i]?=some x) (hy:B[j]?=some y):x < y:=by
  obtain ⟨hi,rfl⟩:=List.getElem?_eq_some_iff.1 hx
  obtain ⟨hj,rfl⟩:=List.getElem?_eq_some_iff.1 hy
  exact List.pairwise_iff_getElem.1 h i j hi hj hij
def AboveIs (B:List Nat) (i r:Int):Prop:=
  (∃ (k x:Nat),B[k]?=some x∧i < (x:Int)∧(∀ (j y:Nat),j < k→B[j]?=some y→(y:Int)≤i)∧r=(x:Int)) ∨ ((∀ (j y:Nat),B[j]?=some y→(y:Int)≤i)∧r=-1)
def BelowIs (B:List Nat) (i r:Int):Prop:=
  (∃ (k x:Nat),B[k]?=some x∧(x:Int) < i∧(∀ (j y:Nat),k < j→B[j]?=some y→i≤(y:Int))∧r=(x:Int)) ∨ ((∀ (j y:Nat),B[j]?=some y→i≤(y:Int))∧r=-1)
theorem AboveIs.one {B:List Nat} {i r r':Int} (h:AboveIs B i r) (g:AboveIs B i r'):r=r':=by
  rcases h with ⟨k,x,h1,h2,h3,rfl⟩ | ⟨h1,rfl⟩ <;> rcases g with ⟨k',x',g1,g2,g3,rfl⟩ | ⟨g1,rfl⟩
  · rcases Nat.lt_trichotomy k k' with e | rfl | e
    · have:=g3 k x e h1;omega
    · rw [h1] at g1;simp only [Option.some.injEq] at g1;rw [g1]
    · have:=h3 k' x' e g1;omega
  · have:=g1 k x h1;omega
  · have:=h1 k' x' g1;omega
  · rfl
theorem BelowIs.one {B:List Nat} {i r r':Int} (h:BelowIs B i r) (g:BelowIs B i r'):r=r':=by
  rcases h with ⟨k,x,h1,h2,h3,rfl⟩ | ⟨h1,rfl⟩ <;> rcases g with ⟨k',x',g1,g2,g3,rfl⟩ | ⟨g1,rfl⟩
  · rcases Nat.lt_trichotomy k k' with e | rfl | e
    · have:=h3 k' x' e g1;omega
    · rw [h1] at g1;simp only [Option.some.injEq] at g1;rw [g1]
    · have:=g3 k x e h1;omega
  · have:=g1 k x h1;omega
  · have:=h1 k' x' g1;omega
  · rfl
def stand (a:Nat) (r:Int):Nat:=if 0≤r then r.toNat else a
theorem stand_nat (a x:Nat):stand a (x:Int)=x:=by simp [stand]
theorem stand_no (a:Nat):stand a (-1)=a:=by simp [stand]
end G
end Go.Proofs.YtpgcidpghmoibaaGreatDoor

namespace Go.Proofs.YtpgcidpghmoibaaGreatDoor
namespace Cs
open Go.RowKit
def bV (B:List Nat):List Value:=B.map fun (x:Nat)=>.int .i64 (x:Int)
structure Cu (t:TypeId) (w:World) (c:Nat) (v:Value) (B:List Nat) (a:Nat):Prop where
  blk:w.heap[c]?=some (.cells #[v,.int .i64 (a:Int)] t (0,0))
  row:w.ownsRow 0 3 1 v B.length (bV B)
  ne:v.ownBlock ≠ some c
structure Bn (B:List Nat):Prop where
  asc:B.Pairwise (· < ·)
  zero:B[0]?=some 0
  few:B.length≤1001
theorem Bn.pos {B:List Nat} (h:Bn B):0 < B.length:=(List.getElem?_eq_some_iff.1 h.zero).1
theorem Cu.same {t:TypeId} {w w':World} {c:Nat} {v:Value} {B:List Nat} {a:Nat} (h:Cu t w c v B a) (hk:∀ k,k=c ∨ v.ownBlock=some k→w'.heap[k]?=w.heap[k]?):Cu t w' c v B a:=
  ⟨(hk c (.inl rfl)).trans h.blk,Rf.own_same h.row (fun k e=>hk k (.inr e)),h.ne⟩
theorem Cu.lt {t:TypeId} {w:World} {c:Nat} {v:Value} {B:List Nat} {a:Nat} (h:Cu t w c v B a):∀ k,k=c ∨ v.ownBlock=some k→k < w.heap.size:=by
  rintro k (rfl | e)
  · exact lt_of_block h.blk
  · exact (h.row.lt k e).2
theorem Cu.below {t:TypeId} {w w':World} {c:Nat} {v:Value} {B:List Nat} {a:Nat} (h:Cu t w c v B a) (hb:Below w.heap.size w w'):Cu t w' c v B a:=
  h.same fun k e=>hb.block k (h.lt k e)
theorem Cu.put {t:TypeId} {w:World} {c:Nat} {v:Value} {B:List Nat} {a:Nat} (h:Cu t w c v B a) (x:Nat):Cu t (w.setCell ⟨c,1,none⟩ (.int .i64 (x:Int))) c v B x∧Rf.Kept (fun k=>k ≠ c) w (w.setCell ⟨c,1,none⟩ (.int .i64 (x:Int))):=by
  refine ⟨⟨?_,Rf.own_same h.row (fun k e=>Rf.blk_ne _ (fun e2=>h.ne (e2 ▸ e))),h.ne⟩,(Rf.Kept.refl _ _).setCell (by simp) _⟩
  rw [Rf.blk_set h.blk]
  rfl
theorem Cu.cells {t:TypeId} {w:World} {c:Nat} {v:Value} {B:List Nat} {a:Nat} (h:Cu t w c v B a) (hn:0 < B.length):∃ g cap,v=.slice (some ⟨g,0,none⟩) B.length cap∧g ≠ c∧∀ (k x:Nat),B[k]?=some x→w.cell? ⟨g,k,none⟩=some (.int .i64 (x:Int)):=by
  obtain ⟨g,cap,hv,_,_⟩:=h.row.form hn
  subst hv
  refine ⟨g,cap,rfl,fun e=>h.ne (by subst e;rfl),fun k x hx=>?_⟩
  have:=own_cell1 h.row (k:=k) (u:=.int .i64 (x:Int)) (by simp [bV,hx])
  exact this
def gotoR (B:List Nat) (n:Int):Int:=if n < 0 then -1 else match B[n.toNat]? with | some x=>(x:Int) | none=>-1
def MovesTo (t:TypeId) (w:World) (c:Nat) (v:Value) (B:List Nat) (a:Nat) (r:Int) (e:Ending) (w':World):Prop:=
  e=.returned (.int .i64 r)∧Cu t w' c v B (G.stand a r)∧Rf.Kept (fun k=>k ≠ c) w w'
def isB (B:List Nat) (i:Int):Bool:=B.any fun x=>decide ((x:Int)=i)
theorem isB_iff {B:List Nat} {i:Int}:isB B i=true ↔ ∃ x ∈ B,(x:Int)=i:=by simp [isB]
theorem bV_snoc (B:List Nat) (x:Nat):bV (B ++ [x])=bV B ++ [.int .i64 (x:Int)]:=by simp [bV]
theorem Cu.grow {t:TypeId} {w X w2:World} {c:Nat} {v v':Value} {B:List Nat} {a x:Nat} (h:Cu t w c v B a) (hX:Rf.Kept (fun _=>True) w X) (hg:X.grownBy w2 v.ownBlock) (hat:Rf.Lies w v v') (hn:w2.ownsRow 0 3 1 v' (B.length + 1) (bV B ++ [.int .i64 (x:Int)])) :
    Cu t (w2.setCell ⟨c,0,none⟩ v') c v' (B ++ [x]) a:=by
  have hc:=lt_of_block h.blk
  have hb:w2.heap[c]?=some (.cells #[v,.int .i64 (a:Int)] t (0,0)):=((hg.block c (Nat.lt_of_lt_of_le hc hX.size) (fun e=>h.ne e.symm)).trans (hX.block c hc trivial)).trans h.blk
  have hne:v'.ownBlock ≠ some c:=fun e=>by
    rcases hat c e with h1 | h1
    · exact h.ne h1
    · omega
  refine ⟨?_,?_,hne⟩
  · rw [Rf.blk_set hb]
    rfl
  · rw [bV_snoc,List.length_append]
    exact Rf.own_same hn (fun k e=>Rf.blk_ne _ (fun e2=>hne (e2 ▸ e)))
end Cs
end Go.Proofs.YtpgcidpghmoibaaGreatDoor

namespace Go.Proofs.YtpgcidpghmoibaaGreatDoor
namespace Rf
open Go.RowKit
open Cs
open G (PNode)
theorem seg_to {w:World} {la:Option Addr} {n lc:Nat} {l:List G.Seg} (h:w.ownsRow 0 65 3 (.slice la n lc) n (segs l)) {k:Nat} {x:G.Seg} (hx:l[k]?=some x) (hk:k < n) :
    ∃ g,la=some ⟨g,0,none⟩∧∀ wr,Below w.heap.size w wr→wr.cell? ⟨g,k * 3,none⟩=some (.int .i64 (x.f:Int))∧wr.cell? ⟨g,k * 3 + 1,none⟩=some (.int .i64 (x.t:Int))∧wr.cell? ⟨g,k * 3 + 2,none⟩=some (.int .i64 x.r):=by
  obtain ⟨g,cap,hv,_,hlt⟩:=h.form (by omega)
  simp only [Value.slice.injEq] at hv
  obtain ⟨rfl,_,rfl⟩:=hv
  refine ⟨g,rfl,fun wr hb=>?_⟩
  have key:∀ o u,o < 3→(scell3 x)[o]?=some u→wr.cell? ⟨g,k * 3 + o,none⟩=some u:=by
    intro o u ho hu
    rw [hb.cell (p:=⟨g,k * 3 + o,none⟩) hlt,h.cellAt _ (by omega)]
    rw [← hu]
    exact flat_get scell3 3 (fun _=>rfl) l k o x hx ho
  exact ⟨key 0 _ (by omega) rfl,key 1 _ (by omega) rfl,key 2 _ (by omega) rfl⟩
theorem cut_few {T:List PNode} {Q:List Nat} {s:ByteArray} {k:Nat} {l:List G.Seg} (h:G.CutR T Q s k l):l.length + k≤(G.us s).length:=by
  induction h with
  | done h=>simp [h]
  | cons h1 h2 h3 ih =>
    simp only [List.length_cons]
    omega
theorem bnds_snoc (p:Nat) (l:List G.Seg) (k:Nat) (x:G.Seg) (hx:l[k]?=some x):G.bnds p (l.take (k + 1))=G.bnds p (l.take k) ++ [x.t]:=by
  obtain ⟨hk,rfl⟩:=List.getElem?_eq_some_iff.1 hx
  unfold G.bnds
  rw [List.take_succ_eq_append_getElem hk,List.map_append]
  rfl
theorem cut_bn {T:List PNode} {Q:List Nat} {s:ByteArray} {l:List G.Seg} (h:G.CutR T Q s 0 l) (hs:s.size≤1000):Bn (G.bnds 0 l):=by
  refine ⟨h.chain0.asc,rfl,?_⟩
  have h1:=cut_few h
  have h2:=U.units_length s
  rw [G.us_len] at h1
  rw [G.bnds_len]
  omega
end Rf
end Go.Proofs.YtpgcidpghmoibaaGreatDoor

namespace Go.Proofs.YtpgcidpghmoibaaGreatDoor
namespace Rf
open Go.RowKit
open Cs
set_option maxRecDepth 100000 in
set_option maxHeartbeats 1000000 in
theorem above_any (w:World) (c:Nat) (v:Value) (B:List Nat) (a:Nat) (h:Cu 84 w c v B a) (hB:Bn B) (i:Int) :
    Calls Tryz.prog 91 #[.pointer (some ⟨c,0,none⟩),.int .i64 i] w fun e w'=>(∃ r,G.AboveIs B i r∧e=.returned (.int .i64 r))∧w'=w:=by
  have hpos:=hB.pos
  have hfew:=hB.few
  obtain ⟨g,cap,rfl,hgc,cell⟩:=h.cells hpos
  have c0:=cell_blk h.blk 0 (.slice (some ⟨g,0,none⟩) B.length cap) rfl
  clear h
  go_enter Tryz.func91,Tryz.ntmps91
  go_wp2
  go_loop [5] (fun vk=>∃ k:Nat,vk=.int .i64 k∧k≤B.length∧∀ (j y:Nat),j < k→B[j]?=some y→(y:Int)≤i) (fun vk=>B.length - (intOf vk).toNat)
  case atStart=>exact ⟨0,rfl,Nat.zero_le _,fun j y hj=>by omega⟩
  case round =>
    obtain ⟨k,rfl,hk,hlo⟩:=hrel
    have HL:Hid _:=hlo
    clear hlo
    by_cases hlt:k < B.length
    · have hx:B[k]?=some B[k]:=List.getElem?_eq_getElem hlt
      generalize B[k]=x at hx
      have cx:=cell k x hx
      have HX:Hid (B[k]?=some x):=hx
      clear hx cell
      by_cases hgt:i < (x:Int)
      · go_wp2
        go_ret
        exact ⟨⟨(x:Int),.inl ⟨k,x,HX.out,hgt,HL.out,rfl⟩,rfl⟩,rfl⟩
      · go_wp2
        refine ⟨⟨k + 1,by go_num,by omega,fun j y hj hy=>?_⟩,by simp [intOf];omega⟩
        rcases Nat.lt_or_ge j k with e | e
        · exact HL.out j y e hy
        · obtain rfl:j=k:=by omega
          have:=HX.out.symm.trans hy
          simp only [Option.some.injEq] at this
          omega
    · obtain rfl:k=B.length:=by omega
      go_wp2
      go_ret
      exact ⟨⟨-1,.inr ⟨fun j y hy=>HL.out j y (List.getElem?_eq_some_iff.1 hy).1 hy,rfl⟩,rfl⟩,rfl⟩
set_option maxRecDepth 100000 in
set_option maxHeartbeats 1000000 in
theorem below_any (w:World) (c:Nat) (v:Value) (B:List Nat) (a:Nat) (h:Cu 84 w c v B a) (hB:Bn B) (i:Int) :
    Calls Tryz.prog 92 #[.pointer (some ⟨c,0,none⟩),.int .i64 i] w fun e w'=>(∃ r,G.BelowIs B i r∧e=.returned (.int .i64 r))∧w'=w:=by
  have hpos:=hB.pos
  have hfew:=hB.few
  obtain ⟨g,cap,rfl,hgc,cell⟩:=h.cells hpos
  have c0:=cell_blk h.blk 0 (.slice (some ⟨g,0,none⟩) B.length cap) rfl
  clear h
  go_enter Tryz.func92,Tryz.ntmps92
  go_wp2
  go_loop [5] (fun vk=>∃ k:Nat,vk=.int .i64 ((k:Int) - 1)∧k≤B.length∧∀ (j y:Nat),k≤j→B[j]?=some y→i≤(y:Int)) (fun vk=>(intOf vk + 1).toNat)
  case atStart=>exact ⟨B.length,by go_num,Nat.le_refl _,fun j y hj hy=>by have:=(List.getElem?_eq_some_iff.1 hy).1;omega⟩
  case round =>
    obtain ⟨k,rfl,hk,hhi⟩:=hrel
    have HL:Hid _:=hhi
    clear hhi
    by_cases hlt:0 < k
    · obtain ⟨m,rfl⟩:∃ m,k=m + 1:=⟨k - 1,by omega⟩
      have hm:m < B.length:=by omega
      have he:((m + 1:Nat):Int) - 1=(m:Int):=by omega
      rw [he]
      have hx:B[m]?=some B[m]:=List.getElem?_eq_getElem hm
      generalize B[m]=x at hx
      have cx:=cell m x hx
      have HX:Hid (B[m]?=some x):=hx
      clear hx cell
      by_cases hgt:(x:Int) < i
      · go_wp2
        go_ret
        exact ⟨⟨(x:Int),.inl ⟨m,x,HX.out,hgt,HL.out,rfl⟩,rfl⟩,rfl⟩
      · go_wp2
        refine ⟨⟨m,by go_num,by omega,fun j y hj hy=>?_⟩,by first | (simp [intOf];done) | (simp [intOf];omega)⟩
        rcases Nat.lt_or_ge m j with e | e
        · exact HL.out j y e hy
        · obtain rfl:j=m:=by omega
          have:=HX.out.symm.trans hy
          simp only [Option.some.injEq] at this
          omega
    · obtain rfl:k=0:=by omega
      have he:((0:Nat):Int) - 1=-1:=rfl
      rw [he]
      go_wp2
      go_ret
      exact ⟨⟨-1,.inr ⟨fun j y hy=>HL.out j y (Nat.zero_le _) hy,rfl⟩,rfl⟩,rfl⟩
set_option maxRecDepth 100000 in
set_option maxHeartbeats 1000000 in
theorem goes_any (w:World) (c:Nat) (v:Value) (B:List Nat) (a:Nat) (h:Cu 84 w c v B a) (r:Int) (hr:(∃ x:Nat,r=(x:Int)) ∨ r=-1) :
    Calls Tryz.prog 90 #[.pointer (some ⟨c,0,none⟩),.int .i64 r] w fun e w'=>MovesTo 84 w c v B a r e w':=by
  have hfz:=free_blk h.blk 1
  have c1:=cell_blk h.blk 1 (.int .i64 (a:Int)) rfl
  have HR:Hid (Cu 84 w c v B a):=h
  clear h
  rcases hr with ⟨x,rfl⟩ | rfl
  · go_enter Tryz.func90,Tryz.ntmps90
    go_wp2
    go_ret
    exact ⟨rfl,by rw [G.stand_nat];exact (HR.out.put x).1,(HR.out.put x).2⟩
  · go_enter Tryz.func90,Tryz.ntmps90
    go_wp2
    go_ret
    exact ⟨rfl,by rw [G.stand_no];exact HR.out,Kept.refl _ _⟩
theorem above_form {B:List Nat} {i r:Int} (h:G.AboveIs B i r):(∃ x:Nat,r=(x:Int)) ∨ r=-1:=by
  rcases h with ⟨_,x,_,_,_,rfl⟩ | ⟨_,rfl⟩
  · exact .inl ⟨x,rfl⟩
  · exact .inr rfl
theorem below_form {B:List Nat} {i r:Int} (h:G.BelowIs B i r):(∃ x:Nat,r=(x:Int)) ∨ r=-1:=by
  rcases h with ⟨_,x,_,_,_,rfl⟩ | ⟨_,rfl⟩
  · exact .inl ⟨x,rfl⟩
  · exact .inr rfl
set_option maxRecDepth 100000 in
set_option maxHeartbeats 1000000 in
theorem follow_any (w:World) (c:Nat) (v:Value) (B:List Nat) (a:Nat) (h:Cu 84 w c v B a) (hB:Bn B) (i:Int) :
    Calls Tryz.prog 67 #[.pointer (some ⟨c,0,none⟩),.int .i64 i] w fun e w'=>∃ r,G.AboveIs B i r∧MovesTo 84 w c v B a r e w':=by
  go_enter Tryz.func67,Tryz.ntmps67
  go_wp2_with (first
    | (go_at_call 91;refine (above_any w c v B a h hB i).mono ?_;rintro e w1 ⟨⟨r,hr,rfl⟩,rfl⟩)
    | (go_at_call 90;refine (goes_any _ c v B a h r (above_form hr)).mono ?_;rintro e w2 ⟨rfl,h2,h3⟩))
  go_ret
  exact ⟨r,hr,rfl,h2,h3⟩
set_option maxRecDepth 100000 in
set_option maxHeartbeats 1000000 in
theorem preced_any (w:World) (c:Nat) (v:Value) (B:List Nat) (a:Nat) (h:Cu 84 w c v B a) (hB:Bn B) (i:Int) :
    Calls Tryz.prog 68 #[.pointer (some ⟨c,0,none⟩),.int .i64 i] w fun e w'=>∃ r,G.BelowIs B i r∧MovesTo 84 w c v B a r e w':=by
  go_enter Tryz.func68,Tryz.ntmps68
  go_wp2_with (first
    | (go_at_call 92;refine (below_any w c v B a h hB i).mono ?_;rintro e w1 ⟨⟨r,hr,rfl⟩,rfl⟩)
    | (go_at_call 90;refine (goes_any _ c v B a h r (below_form hr)).mono ?_;rintro e w2 ⟨rfl,h2,h3⟩))
  go_ret
  exact ⟨r,hr,rfl,h2,h3⟩
set_option maxRecDepth 100000 in
set_option maxHeartbeats 1000000 in
theorem next_any (w:World) (c:Nat) (v:Value) (B:List Nat) (a:Nat) (h:Cu 84 w c v B a) (hB:Bn B) :
    Calls Tryz.prog 65 #[.pointer (some ⟨c,0,none⟩)] w fun e w'=>∃ r,G.AboveIs B (a:Int) r∧MovesTo 84 w c v B a r e w':=by
  have c1:=cell_blk h.blk 1 (.int .i64 (a:Int)) rfl
  go_enter Tryz.func65,Tryz.ntmps65
  go_wp2_with (first
    | (go_at_call 91;refine (above_any w c v B a h hB (a:Int)).mono ?_;rintro e w1 ⟨⟨r,hr,rfl⟩,rfl⟩)
    | (go_at_call 90;refine (goes_any _ c v B a h r (above_form hr)).mono ?_;rintro e w2 ⟨rfl,h2,h3⟩))
  go_ret
  exact ⟨r,hr,rfl,h2,h3⟩
set_option maxRecDepth 100000 in
set_option maxHeartbeats 1000000 in
theorem prev_any (w:World) (c:Nat) (v:Value) (B:List Nat) (a:Nat) (h:Cu 84 w c v B a) (hB:Bn B) :
    Calls Tryz.prog 66 #[.pointer (some ⟨c,0,none⟩)] w fun e w'=>∃ r,G.BelowIs B (a:Int) r∧MovesTo 84 w c v B a r e w':=by
  have c1:=cell_blk h.blk 1 (.int .i64 (a:Int)) rfl
  go_enter Tryz.func66,Tryz.ntmps66
  go_wp2_with (first
    | (go_at_call 92;refine (below_any w c v B a h hB (a:Int)).mono ?_;rintro e w1 ⟨⟨r,hr,rfl⟩,rfl⟩)
    | (go_at_call 90;refine (goes_any _ c v B a h r (below_form hr)).mono ?_;rintro e w2 ⟨rfl,h2,h3⟩))
  go_ret
  exact ⟨r,hr,rfl,h2,h3⟩
set_option maxRecDepth 100000 in
set_option maxHeartbeats 1000000 in
theorem first_any (w:World) (c:Nat) (v:Value) (B:List Nat) (a:Nat) (h:Cu 84 w c v B a) :
    Calls Tryz.prog 63 #[.pointer (some ⟨c,0,none⟩)] w fun e w'=>MovesTo 84 w c v B a 0 e w':=by
  go_enter Tryz.func63,Tryz.ntmps63
  go_wp2_with (go_at_call 90;refine (goes_any w c v B a h 0 (.inl ⟨0,rfl⟩)).mono ?_;rintro e w2 ⟨rfl,h2,h3⟩)
  go_ret
  exact ⟨rfl,h2,h3⟩
set_option maxRecDepth 100000 in
set_option maxHeartbeats 1000000 in
theorem isB_any (w:World) (c:Nat) (v:Value) (B:List Nat) (a:Nat) (h:Cu 84 w c v B a) (hB:Bn B) (i:Int) :
    Calls Tryz.prog 69 #[.pointer (some ⟨c,0,none⟩),.int .i64 i] w fun e w'=>e=.returned (.bool (isB B i))∧w'=w:=by
  have hpos:=hB.pos
  have hfew:=hB.few
  obtain ⟨g,cap,rfl,hgc,cell⟩:=h.cells hpos
  have c0:=cell_blk h.blk 0 (.slice (some ⟨g,0,none⟩) B.length cap) rfl
  clear h
  go_enter Tryz.func69,Tryz.ntmps69
  go_wp2
  go_loop [5] (fun vk=>∃ k:Nat,vk=.int .i64 k∧k≤B.length∧∀ (j y:Nat),j < k→B[j]?=some y→(y:Int) ≠ i) (fun vk=>B.length - (intOf vk).toNat)
  case atStart=>exact ⟨0,rfl,Nat.zero_le _,fun j y hj=>by omega⟩
  case round =>
    obtain ⟨k,rfl,hk,hlo⟩:=hrel
    have HL:Hid _:=hlo
    clear hlo
    by_cases hlt:k < B.length
    · have hx:B[k]?=some B[k]:=List.getElem?_eq_getElem hlt
      generalize B[k]=x at hx
      have cx:=cell k x hx
      have HX:Hid (B[k]?=some x):=hx
      clear hx cell
      by_cases hgt:(x:Int)=i
      · have hq:((x:Int) == i)=true:=by simpa using hgt
        have HR:Hid (isB B i=true):=isB_iff.2 ⟨x,List.mem_of_getElem? HX.out,hgt⟩
        clear hgt
        go_wp2
        go_ret
        exact ⟨(congrArg (fun x=>Ending.returned (Value.bool x)) HR.out).symm,rfl⟩
      · have hq:((x:Int) == i)=false:=by simpa using hgt
        have HG:Hid _:=hgt
        clear hgt
        go_wp2
        refine ⟨⟨k + 1,by go_num,by omega,fun j y hj hy=>?_⟩,by simp [intOf];omega⟩
        rcases Nat.lt_or_ge j k with e | e
        · exact HL.out j y e hy
        · obtain rfl:j=k:=by omega
          have:=HX.out.symm.trans hy
          simp only [Option.some.injEq] at this
          rw [← this]
          exact HG.out
    · obtain rfl:k=B.length:=by omega
      have HR:Hid (isB B i=false):=by
        show isB B i=false
        cases e:isB B i
        · rfl
        · obtain ⟨x,hx,he⟩:=isB_iff.1 e
          obtain ⟨j,hj⟩:=List.mem_iff_getElem?.1 hx
          exact absurd he (HL.out j x (List.getElem?_eq_some_iff.1 hj).1 hj)
      go_wp2
      go_ret
      exact ⟨(congrArg (fun x=>Ending.returned (Value.bool x)) HR.out).symm,rfl⟩
end Rf
end Go.Proofs.YtpgcidpghmoibaaGreatDoor

namespace Go.Proofs.YtpgcidpghmoibaaGreatDoor
namespace G
def wordsB:ByteArray:=⟨#[91,97,45,122,93,43,59]⟩
def wT1:List PNode:=[] ++ [mk [] 115 ([] ++ [(97,122)]) false []]
def wT2:List PNode:=wT1 ++ [mk wT1 43 [] false [0]]
def wT3:List PNode:=wT2 ++ [mk wT2 113 [] false ([] ++ [wT1.length])]
def wordsT:List PNode:=wT3 ++ [mk wT3 99 [] false ([] ++ [wT2.length])]
theorem sk0:skip wordsB 0=0:=skip_end (by decide) (by decide)
theorem sk5:skip wordsB 5=5:=skip_end (by decide) (by decide)
theorem sk6:skip wordsB 6=6:=skip_end (by decide) (by decide)
theorem sk7:skip wordsB 7=7:=skip_end (by decide) (by decide)
theorem words_set:R wordsB [] .atom 0 0 [] (.ok 0 5 wT1):=by
  refine .set (by decide) (by decide) ?_
  refine .setTwo (a:=97) (j:=2) (b:=122) (k:=4) (by decide) (by decide) (by decide) (by decide) (by decide) ?_
  exact .setEnd (by decide)
theorem words_seq:R wordsB [] (.seq []) 0 0 [] (.ok wT2.length 6 wT3):=by
  refine .seqRep (n:=0) (j:=5) (T':=wT1) (by rw [sk0];decide) (by rw [sk0];exact words_set) (by rw [sk5];decide) ?_
  rw [sk5]
  have h:R wordsB [] (.seq ([] ++ [wT1.length])) 0 6 wT2 (.ok wT2.length (skip wordsB 6) (wT2 ++ [mk wT2 113 [] false ([] ++ [wT1.length])])):=.seqEnd (by rw [sk6];decide) (by simp)
  rw [sk6] at h
  exact h
theorem words_expr:R wordsB [] (.expr []) 0 0 [] (.ok wT3.length 6 wordsT):=by
  have h:R wordsB [] (.expr []) 0 0 [] (.ok wT3.length (skip wordsB 6) (wT3 ++ [mk wT3 99 [] false ([] ++ [wT2.length])])):=.exprEnd words_seq (by rw [sk6];decide)
  rw [sk6] at h
  exact h
theorem words_src:Src wordsB 0 [] [] [] (.ok ([] ++ [wT3.length]) wordsT):=by
  have hS:Stm wordsB [] (skip wordsB 0) [] (.rule wT3.length (skip wordsB 6 + 1) wordsT):=by
    rw [sk0]
    exact .rule (fun h=>absurd h.1 (by decide)) words_expr (by rw [sk6];decide)
  rw [sk6] at hS
  exact .rule (by rw [sk0];decide) hS (.done (by rw [sk7];decide))
theorem words_size:sizeOf wordsT ([] ++ [wT3.length])=1:=by decide
end G
end Go.Proofs.YtpgcidpghmoibaaGreatDoor

namespace Go.Proofs.YtpgcidpghmoibaaGreatDoor
namespace G
theorem Lang.star_one_iff (x:PNode) (u:List Int):Lang.star (Lang.one x) u ↔ ∀ c ∈ u,inV x c=true:=by
  constructor
  · intro h
    induction h with
    | nil=>intro c hc;simp at hc
    | cons ha _ ih =>
      obtain ⟨d,rfl,hd⟩:=ha
      intro c hc
      rcases List.mem_append.1 hc with hc | hc
      · have:c=d:=by simpa using hc
        subst this
        exact hd
      · exact ih c hc
  · induction u with
    | nil=>intro _;exact .nil
    | cons c u ih =>
      intro h
      have:=Lang.star.cons (A:=Lang.one x) (u:=[c]) ⟨c,rfl,h c (by simp)⟩ (ih (fun d hd=>h d (by simp [hd])))
      simpa using this
theorem Lang.plus_one_iff (x:PNode) (u:List Int):Lang.plus (Lang.one x) u ↔ u ≠ []∧∀ c ∈ u,inV x c=true:=by
  constructor
  · intro h
    refine ⟨?_,(Lang.star_one_iff x u).1 (Lang.plus_star h)⟩
    obtain ⟨a,b,rfl,⟨c,rfl,_⟩,_⟩:=h
    simp
  · rintro ⟨h1,h2⟩
    rcases Lang.star_plus ((Lang.star_one_iff x u).2 h2) with h | h
    · exact absurd h h1
    · exact h
def lowN:PNode:=mk [] 115 ([] ++ [(97,122)]) false []
theorem inV_low (c:Int):inV lowN c=true ↔ 97≤c∧c≤122:=by
  simp [inV,lowN,mk,runeB,within]
  omega
theorem words_lang (hT:WF wordsT):lang wordsT wT3.length=Lang.plus (Lang.one lowN):=by
  have h3:wordsT[wT3.length]?=some (mk wT3 99 [] false ([] ++ [wT2.length])):=rfl
  have h2:wordsT[wT2.length]?=some (mk wT2 113 [] false ([] ++ [wT1.length])):=rfl
  have h1:wordsT[wT1.length]?=some (mk wT1 43 [] false [0]):=rfl
  have h0:wordsT[0]?=some lowN:=rfl
  rw [lang_lone hT h3 (by decide) (p:=wT2.length) rfl,lang_lone hT h2 (by decide) (p:=wT1.length) rfl,lang_rep hT h1 (by decide) (p:=0) rfl,lang_set hT h0 (by decide)]
  rfl
theorem words_iff (hT:WF wordsT) (u:List Int):lang wordsT wT3.length u ↔ u ≠ []∧∀ c ∈ u,97≤c∧c≤122:=by
  rw [words_lang hT,Lang.plus_one_iff]
  simp only [inV_low]
def ab1:ByteArray:=⟨#[97,98,49]⟩
theorem ab1_us:us ab1=[97,98,49]:=by decide
theorem ab1_e0:edge ab1 0=0:=by decide
theorem ab1_e2:edge ab1 2=2:=by decide
theorem ab1_long (hT:WF wordsT):Long wordsT ([] ++ [wT3.length]) [97,98,49] 2 0:=by
  refine .inr ⟨by omega,by simp,0,wT3.length,rfl,rfl,(words_iff hT _).2 ⟨by simp,fun c hc=>?_⟩,fun q hq m h1 h2=>?_,fun i q hi=>by omega⟩
  · simp at hc
    omega
  · have hq':q=wT3.length:=by simpa using hq
    subst hq'
    simp at h2
    have hm:m=3:=by omega
    subst hm
    intro h
    have:=((words_iff hT _).1 h).2 49 (by simp)
    omega
theorem ab1_unit {k:Nat} (h:UnitAt ab1 0 k):k=0:=by
  refine h.one ⟨Nat.zero_le _,fun j h1 h2=>by omega,fun _=>?_⟩
  have:edge ab1 (0 + 1)=1:=by decide
  rw [this]
  decide
end G
end Go.Proofs.YtpgcidpghmoibaaGreatDoor
