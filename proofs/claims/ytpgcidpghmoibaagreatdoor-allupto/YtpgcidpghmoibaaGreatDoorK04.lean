/-
  THE REFERENCE's READER, as memory
  THE REFERENCE's READER
  THE REFERENCE's RULES, asked
-/
import Derived.Test.YtpgcidpghmoibaaGreatDoorK01
import Derived.Test.YtpgcidpghmoibaaGreatDoorK02
namespace Go.Proofs.YtpgcidpghmoibaaGreatDoor
namespace Rf
open Go.RowKit
open G (PNode)
structure St where
  i:Nat
  err:Nat
  place:Nat
  deep:Nat
  T:List PNode
  env:List (ByteArray × Nat)
  rules:List Nat
def ints (l:List Nat):List Value:=l.map fun n:Nat=>.int .i64 (n:Int)
def rcells (l:List (Nat × Nat)):List Value:=(l.map fun x=>[Value.int .i64 (x.1:Int),.int .i64 (x.2:Int)]).flatten
def ncell (x:PNode) (v:Value × Value):List Value:=[.int .u8 (x.kind:Int),v.1,.bool x.other,v.2,.int .i64 (x.size:Int)]
def ncells (T:List PNode) (V:List (Value × Value)):List Value:=((T.zip V).map fun x=>ncell x.1 x.2).flatten
def ecells (E:List (ByteArray × Nat)):List Value:=(E.map fun x=>[Value.string x.1,.int .i64 (x.2:Int)]).flatten
theorem ints_snoc (l:List Nat) (n:Nat):ints (l ++ [n])=ints l ++ [.int .i64 (n:Int)]:=by simp [ints]
theorem rcells_snoc (l:List (Nat × Nat)) (a b:Nat):rcells (l ++ [(a,b)])=rcells l ++ [.int .i64 (a:Int),.int .i64 (b:Int)]:=by simp [rcells]
theorem ecells_snoc (l:List (ByteArray × Nat)) (a:ByteArray) (b:Nat):ecells (l ++ [(a,b)])=ecells l ++ [.string a,.int .i64 (b:Int)]:=by simp [ecells]
theorem ncells_snoc (T:List PNode) (V:List (Value × Value)) (x:PNode) (v:Value × Value) (h:V.length=T.length):ncells (T ++ [x]) (V ++ [v])=ncells T V ++ ncell x v:=by
  unfold ncells
  rw [List.zip_append h.symm]
  simp
theorem flat_get {α:Type} (f:α→List Value) (c:Nat) (hc:∀ x,(f x).length=c):∀ (l:List α) (k o:Nat) (x:α),l[k]?=some x→o < c→((l.map f).flatten)[k * c + o]?=(f x)[o]?
  | [],k,o,x,h,ho=>by simp at h
  | y :: l,0,o,x,h,ho=>by
    simp only [List.getElem?_cons_zero,Option.some.injEq] at h
    subst h
    simp only [List.map_cons,List.flatten_cons,Nat.zero_mul,Nat.zero_add]
    rw [List.getElem?_append_left (by rw [hc];exact ho)]
  | y :: l,k + 1,o,x,h,ho=>by
    simp only [List.getElem?_cons_succ] at h
    simp only [List.map_cons,List.flatten_cons]
    rw [List.getElem?_append_right (by rw [hc];rw [Nat.succ_mul];omega),hc]
    have e:(k + 1) * c + o - c=k * c + o:=by rw [Nat.succ_mul];omega
    rw [e]
    exact flat_get f c hc l k o x h ho
theorem ncells_get {T:List PNode} {V:List (Value × Value)} {k:Nat} {x:PNode} {v:Value × Value} (hx:T[k]?=some x) (hv:V[k]?=some v) (o:Nat) (ho:o < 5):(ncells T V)[k * 5 + o]?=(ncell x v)[o]?:=
  flat_get (fun x:PNode × (Value × Value)=>ncell x.1 x.2) 5 (fun _=>rfl) (T.zip V) k o (x,v) (List.getElem?_zip_eq_some.2 ⟨hx,hv⟩) ho
theorem ecells_get {E:List (ByteArray × Nat)} {k:Nat} {x:ByteArray × Nat} (hx:E[k]?=some x) (o:Nat) (ho:o < 2):(ecells E)[k * 2 + o]?=([Value.string x.1,.int .i64 (x.2:Int)]:List Value)[o]?:=
  flat_get (fun x:ByteArray × Nat=>[Value.string x.1,.int .i64 (x.2:Int)]) 2 (fun _=>rfl) E k o x hx ho
theorem rcells_get {E:List (Nat × Nat)} {k:Nat} {x:Nat × Nat} (hx:E[k]?=some x) (o:Nat) (ho:o < 2):(rcells E)[k * 2 + o]?=([Value.int .i64 (x.1:Int),.int .i64 (x.2:Int)]:List Value)[o]?:=
  flat_get (fun x:Nat × Nat=>[Value.int .i64 (x.1:Int),.int .i64 (x.2:Int)]) 2 (fun _=>rfl) E k o x hx ho
def Foot (b:Nat) (vN vM vR:Value) (V:List (Value × Value)) (k:Nat):Prop:=
  k=b ∨ vN.ownBlock=some k ∨ vM.ownBlock=some k ∨ vR.ownBlock=some k ∨ ∃ x ∈ V,x.1.ownBlock=some k ∨ x.2.ownBlock=some k
def rcellsOf (s:ByteArray) (st:St) (vN vM vR:Value):Array Value:=
  #[.string s,.int .i64 (st.i:Int),.int .i64 (st.err:Int),.int .i64 (st.place:Int),.int .i64 (st.deep:Int),vN,vM,vR,.slice none 0 0,.slice none 0 0,.slice none 0 0]
structure RdAt (w:World) (b:Nat) (s:ByteArray) (st:St) (vN vM vR:Value) (V:List (Value × Value)):Prop where
  blk:w.heap[b]?=some (.cells (rcellsOf s st vN vM vR) 36 (0,0))
  len:V.length=st.T.length
  oN:w.ownsRow 0 118 5 vN st.T.length (ncells st.T V)
  oM:w.ownsRow 0 191 2 vM st.env.length (ecells st.env)
  oR:w.ownsRow 0 3 1 vR st.rules.length (ints st.rules)
  oV:∀ (k:Nat) (x:PNode) (v:Value × Value),st.T[k]?=some x→V[k]?=some v→w.ownsRow 0 201 2 v.1 x.ranges.length (rcells x.ranges)∧w.ownsRow 0 3 1 v.2 x.parts.length (ints x.parts)
  nbN:vN.ownBlock ≠ some b
  nbM:vM.ownBlock ≠ some b
  nbR:vR.ownBlock ≠ some b
  apNM:Apart vN vM
  apNR:Apart vN vR
  apMR:Apart vM vR
  imm:∀ x ∈ V,∀ k,x.1.ownBlock=some k ∨ x.2.ownBlock=some k→k ≠ b∧vN.ownBlock ≠ some k∧vM.ownBlock ≠ some k∧vR.ownBlock ≠ some k
theorem RdAt.lt {w:World} {b:Nat} {s:ByteArray} {st:St} {vN vM vR:Value} {V:List (Value × Value)} (h:RdAt w b s st vN vM vR V):∀ k,Foot b vN vM vR V k→k < w.heap.size:=by
  rintro k (rfl | e | e | e | ⟨x,hx,e⟩)
  · exact lt_of_block h.blk
  · exact (h.oN.lt k e).2
  · exact (h.oM.lt k e).2
  · exact (h.oR.lt k e).2
  · obtain ⟨j,hj⟩:=List.getElem?_of_mem hx
    have hl:j < st.T.length:=by
      obtain ⟨h1,_⟩:=List.getElem?_eq_some_iff.1 hj
      have h2:=h.len
      omega
    obtain ⟨o1,o2⟩:=h.oV j _ x (List.getElem?_eq_getElem hl) hj
    rcases e with e | e
    · exact (o1.lt k e).2
    · exact (o2.lt k e).2
theorem RdAt.put {w w':World} {b:Nat} {s:ByteArray} {st st':St} {vN vM vR:Value} {V:List (Value × Value)} (h:RdAt w b s st vN vM vR V)
    (hb:w'.heap[b]?=some (.cells (rcellsOf s st' vN vM vR) 36 (0,0))) (hk:∀ k,k ≠ b→Foot b vN vM vR V k→w'.heap[k]?=w.heap[k]?)
    (hT:st'.T=st.T) (hE:st'.env=st.env) (hR:st'.rules=st.rules):RdAt w' b s st' vN vM vR V where
  blk:=hb
  len:=by rw [hT];exact h.len
  oN:=by rw [hT];exact own_same h.oN (fun k e=>hk k (fun e2=>h.nbN (e2 ▸ e)) (.inr (.inl e)))
  oM:=by rw [hE];exact own_same h.oM (fun k e=>hk k (fun e2=>h.nbM (e2 ▸ e)) (.inr (.inr (.inl e))))
  oR:=by rw [hR];exact own_same h.oR (fun k e=>hk k (fun e2=>h.nbR (e2 ▸ e)) (.inr (.inr (.inr (.inl e)))))
  oV k x v hx hv:=by
    rw [hT] at hx
    obtain ⟨o1,o2⟩:=h.oV k x v hx hv
    have hm:v ∈ V:=List.mem_of_getElem? hv
    exact ⟨own_same o1 (fun j e=>hk j (h.imm v hm j (.inl e)).1 (.inr (.inr (.inr (.inr ⟨v,hm,.inl e⟩))))),own_same o2 (fun j e=>hk j (h.imm v hm j (.inr e)).1 (.inr (.inr (.inr (.inr ⟨v,hm,.inr e⟩)))))⟩
  nbN:=h.nbN
  nbM:=h.nbM
  nbR:=h.nbR
  apNM:=h.apNM
  apNR:=h.apNR
  apMR:=h.apMR
  imm:=h.imm
def Rd (w:World) (b:Nat) (s:ByteArray) (S:Nat→Prop) (st:St):Prop:=
  ∃ vN vM vR V,RdAt w b s st vN vM vR V∧(∀ k,Foot b vN vM vR V k→S k)∧∀ k,S k→k < w.heap.size
structure Evo (w:World) (S:Nat→Prop) (w':World) (S':Nat→Prop):Prop where
  kept:Kept (fun k=>¬ S k) w w'
  new:∀ k,S' k→S k ∨ w.heap.size≤k
theorem Evo.refl (w:World) (S:Nat→Prop):Evo w S w S:=⟨Kept.refl _ _,fun _ h=>.inl h⟩
theorem Evo.trans {w w' w'':World} {S S' S'':Nat→Prop} (h:Evo w S w' S') (g:Evo w' S' w'' S''):Evo w S w'' S'' where
  kept:=h.kept.trans' g.kept (fun i hi hn h2=>by
    rcases h.new i h2 with h3 | h3
    · exact hn h3
    · omega)
  new k hk:=by
    rcases g.new k hk with h2 | h2
    · exact h.new k h2
    · exact .inr (Nat.le_trans h.kept.size h2)
theorem Rd.same {w w':World} {b:Nat} {s:ByteArray} {S:Nat→Prop} {st:St} (h:Rd w b s S st) (hsz:w.heap.size≤w'.heap.size) (hk:∀ k,S k→w'.heap[k]?=w.heap[k]?):Rd w' b s S st:=by
  obtain ⟨vN,vM,vR,V,A,hf,hl⟩:=h
  exact ⟨vN,vM,vR,V,A.put (by rw [hk b (hf b (.inl rfl))];exact A.blk) (fun k _ h2=>hk k (hf k h2)) rfl rfl rfl,hf,fun k hk=>Nat.lt_of_lt_of_le (hl k hk) hsz⟩
theorem Rd.alloc {w:World} {b:Nat} {s:ByteArray} {S:Nat→Prop} {st:St} (h:Rd w b s S st) (o:Obj):Rd (w.alloc o) b s S st:=by
  obtain ⟨_,_,_,_,_,_,hl⟩:=id h
  exact h.same (by simp) (fun k hk=>Below.heap_alloc _ _ _ (hl k hk))
theorem Rd.drewN {w:World} {b:Nat} {s:ByteArray} {S:Nat→Prop} {st:St} (h:Rd w b s S st) (n:Nat):Rd (w.drewN n) b s S st:=h.same (Nat.le_refl _) (fun _ _=>rfl)
theorem Rd.grown {w w':World} {b:Nat} {s:ByteArray} {S:Nat→Prop} {st:St} {row:Option Nat} (h:Rd w b s S st) (hg:w.grownBy w' row) (hr:∀ k,row=some k→¬ S k):Rd w' b s S st:=by
  obtain ⟨_,_,_,_,_,_,hl⟩:=id h
  exact h.same hg.size (fun k hk=>hg.block k (hl k hk) (fun e=>hr k e.symm hk))
theorem Rd.inS {w:World} {b:Nat} {s:ByteArray} {S:Nat→Prop} {st:St} (h:Rd w b s S st):S b∧b < w.heap.size:=by
  obtain ⟨_,_,_,_,A,hf,hl⟩:=h
  exact ⟨hf b (.inl rfl),hl b (hf b (.inl rfl))⟩
theorem Rd.lt {w:World} {b:Nat} {s:ByteArray} {S:Nat→Prop} {st:St} (h:Rd w b s S st):∀ k,S k→k < w.heap.size:=by
  obtain ⟨_,_,_,_,_,_,hl⟩:=h
  exact hl
theorem Rd.num {w:World} {b:Nat} {s:ByteArray} {S:Nat→Prop} {st:St} (h:Rd w b s S st) (o:Nat) (v:Value) (st':St)
    (hc:∀ vN vM vR,(rcellsOf s st vN vM vR).setIfInBounds o v=rcellsOf s st' vN vM vR) (hT:st'.T=st.T) (hE:st'.env=st.env) (hR:st'.rules=st.rules):Rd (w.setCell ⟨b,o,none⟩ v) b s S st':=by
  obtain ⟨vN,vM,vR,V,A,hf,hl⟩:=h
  exact ⟨vN,vM,vR,V,A.put (by rw [blk_set A.blk,hc]) (fun k hk _=>blk_ne v hk) hT hE hR,hf,fun k hk=>by simpa [World.setCell] using hl k hk⟩
theorem Rd.setI {w:World} {b:Nat} {s:ByteArray} {S:Nat→Prop} {st:St} (h:Rd w b s S st) (j:Nat):Rd (w.setCell ⟨b,1,none⟩ (.int .i64 (j:Int))) b s S { st with i:=j }:=
  h.num 1 _ { st with i:=j } (fun _ _ _=>rfl) rfl rfl rfl
theorem Rd.inc {w:World} {b:Nat} {s:ByteArray} {S:Nat→Prop} {st:St} (h:Rd w b s S st):Rd (w.setCell ⟨b,1,none⟩ (.int .i64 ((st.i:Int) + 1))) b s S { st with i:=st.i + 1 }:=h.setI (st.i + 1)
theorem Rd.setErr {w:World} {b:Nat} {s:ByteArray} {S:Nat→Prop} {st:St} (h:Rd w b s S st) (j:Nat):Rd (w.setCell ⟨b,2,none⟩ (.int .i64 (j:Int))) b s S { st with err:=j }:=
  h.num 2 _ { st with err:=j } (fun _ _ _=>rfl) rfl rfl rfl
theorem Rd.setPlace {w:World} {b:Nat} {s:ByteArray} {S:Nat→Prop} {st:St} (h:Rd w b s S st) (j:Nat):Rd (w.setCell ⟨b,3,none⟩ (.int .i64 (j:Int))) b s S { st with place:=j }:=
  h.num 3 _ { st with place:=j } (fun _ _ _=>rfl) rfl rfl rfl
theorem Rd.setDeep {w:World} {b:Nat} {s:ByteArray} {S:Nat→Prop} {st:St} (h:Rd w b s S st) (j:Nat):Rd (w.setCell ⟨b,4,none⟩ (.int .i64 (j:Int))) b s S { st with deep:=j }:=
  h.num 4 _ { st with deep:=j } (fun _ _ _=>rfl) rfl rfl rfl
theorem Evo.set {w w1:World} {b:Nat} {S S1:Nat→Prop} (h:Evo w S w1 S1) (_hb:S1 b) (hS:S b ∨ w.heap.size≤b) (o:Nat) (v:Value):Evo w S (w1.setCell ⟨b,o,none⟩ v) S1 where
  kept:=by
    rcases hS with hS | hS
    · exact h.kept.setCell (fun hn=>hn hS) v
    · exact h.kept.setNew hS v
  new:=h.new
theorem Evo.drewN {w w1:World} {S S1:Nat→Prop} (h:Evo w S w1 S1) (n:Nat):Evo w S (w1.drewN n) S1:=⟨h.kept.drewN n,h.new⟩
theorem Evo.alloc {w w1:World} {S S1:Nat→Prop} (h:Evo w S w1 S1) (o:Obj):Evo w S (w1.alloc o) S1:=⟨h.kept.alloc o,h.new⟩
structure Reads (w:World) (b:Nat) (s:ByteArray) (st:St):Prop where
  c0:w.cell? ⟨b,0,none⟩=some (.string s)
  c1:w.cell? ⟨b,1,none⟩=some (.int .i64 (st.i:Int))
  c2:w.cell? ⟨b,2,none⟩=some (.int .i64 (st.err:Int))
  c3:w.cell? ⟨b,3,none⟩=some (.int .i64 (st.place:Int))
  c4:w.cell? ⟨b,4,none⟩=some (.int .i64 (st.deep:Int))
  fr:∀ o,w.frozen? ⟨b,o,none⟩=false
theorem Rd.reads {w:World} {b:Nat} {s:ByteArray} {S:Nat→Prop} {st:St} (h:Rd w b s S st):Reads w b s st:=by
  obtain ⟨vN,vM,vR,V,A,_,_⟩:=h
  exact ⟨cell_blk A.blk 0 _ rfl,cell_blk A.blk 1 _ rfl,cell_blk A.blk 2 _ rfl,cell_blk A.blk 3 _ rfl,cell_blk A.blk 4 _ rfl,fun o=>free_blk A.blk o⟩
end Rf
end Go.Proofs.YtpgcidpghmoibaaGreatDoor

namespace Go.Proofs.YtpgcidpghmoibaaGreatDoor
namespace Rf
open Go.RowKit
open G (PNode)
theorem ret_bool {a b:Bool} (h:a=b):Ending.returned (.bool a)=.returned (.bool b):=by rw [h]
theorem ret_int {k:IntKind} {a b:Int} (h:a=b):Ending.returned (.int k a)=.returned (.int k b):=by rw [h]
def failed (st:St) (e p:Nat):St:=if st.err=0 then { st with err:=e,place:=p } else st
set_option maxRecDepth 100000 in
set_option maxHeartbeats 400000 in
theorem fail_any (w:World) (b:Nat) (s:ByteArray) (S:Nat→Prop) (st:St) (e p:Nat) (hR:Rd w b s S st) :
    Calls Tryz.prog 110 #[.pointer (some ⟨b,0,none⟩),.int .i64 (e:Int),.int .i64 (p:Int)] w fun r w'=>r=.returned (.tuple #[])∧Rd w' b s S (failed st e p)∧Evo w S w' S:=by
  obtain ⟨c0,c1,c2,c3,c4,fr⟩:=hR.reads
  obtain ⟨hSb,_⟩:=hR.inS
  by_cases h0:st.err=0
  · rw [h0] at c2
    go_enter Tryz.func110,Tryz.ntmps110
    go_wp2
    go_end0
    refine ⟨rfl,?_,((Evo.refl w S).set hSb (.inl hSb) _ _).set hSb (.inl hSb) _ _⟩
    rw [failed,if_pos h0]
    exact (hR.setErr e).setPlace p
  · have h0':¬ (st.err:Int)=0:=by omega
    go_enter Tryz.func110,Tryz.ntmps110
    go_wp2
    go_end0
    refine ⟨rfl,?_,Evo.refl w S⟩
    rw [failed,if_neg h0]
    exact hR
theorem drewN_drewN (w:World) (n m:Nat):(w.drewN n).drewN m=w.drewN (n + m):=by simp [World.drewN,Nat.add_assoc]
def moreB (s:ByteArray) (st:St):Bool:=decide (st.err=0) && decide (st.i < s.size)
set_option maxRecDepth 100000 in
set_option maxHeartbeats 400000 in
theorem more_any (w:World) (b:Nat) (s:ByteArray) (S:Nat→Prop) (st:St) (hR:Rd w b s S st) (_hs:s.size≤2000) (_hi:st.i≤100000) :
    Calls Tryz.prog 81 #[.pointer (some ⟨b,0,none⟩)] w fun r w'=>r=.returned (.bool (moreB s st))∧∃ n,w'=w.drewN n:=by
  obtain ⟨c0,c1,c2,c3,c4,fr⟩:=hR.reads
  by_cases h0:st.err=0
  · rw [h0] at c2
    go_enter Tryz.func81,Tryz.ntmps81
    go_wp2
    go_quiet (fail)
    go_wp2
    go_ret
    refine ⟨ret_bool ?_,_,rfl⟩
    simp [moreB,h0]
  · have h0':decide ((st.err:Int)=0)=false:=by simpa using h0
    go_enter Tryz.func81,Tryz.ntmps81
    go_wp2
    go_quiet (fail)
    go_wp2
    go_ret
    refine ⟨ret_bool ?_,_,rfl⟩
    simp [moreB,h0]
def seeV (s:ByteArray) (st:St):Int:=if st.err=0 then G.pk s st.i else -1
theorem seeV_ok {s:ByteArray} {st:St} (h:st.err=0):seeV s st=G.pk s st.i:=by simp [seeV,h]
theorem seeV_no {s:ByteArray} {st:St} (h:st.err ≠ 0):seeV s st=-1:=by simp [seeV,h]
set_option maxRecDepth 100000 in
set_option maxHeartbeats 400000 in
theorem see_any (w:World) (b:Nat) (s:ByteArray) (S:Nat→Prop) (st:St) (hR:Rd w b s S st) (hs:s.size≤2000) (hi:st.i≤100000) :
    Calls Tryz.prog 107 #[.pointer (some ⟨b,0,none⟩)] w fun r w'=>r=.returned (.int .i64 (seeV s st))∧∃ n,w'=w.drewN n:=by
  obtain ⟨c0,c1,c2,c3,c4,fr⟩:=hR.reads
  by_cases h0:moreB s st=true
  · have h1:st.err=0∧st.i < s.size:=by simpa [moreB] using h0
    obtain ⟨he,hlt⟩:=h1
    have hlt':(st.i:Int) < (s.size:Int):=by omega
    have hb:(s[st.i]'hlt).toNat < 256:=by rw [U.at_get];exact U.at_lt s st.i
    have E:Hid (seeV s st=((s[st.i]'hlt).toNat:Int)):=by
      show seeV s st=_
      rw [seeV_ok he,G.pk_lt hlt,U.at_get]
    go_enter Tryz.func107,Tryz.ntmps107
    go_wp2_with (go_at_call 81;refine (more_any _ b s S st hR hs hi).mono ?_;rw [h0];rintro e w' ⟨rfl,n,rfl⟩)
    go_quiet (fail)
    go_wp2
    go_ret
    refine ⟨ret_int ?_,_,drewN_drewN _ _ _⟩
    rw [E.out]
  · have h1:moreB s st=false:=by simpa using h0
    have E:Hid (seeV s st=-1):=by
      show seeV s st=_
      by_cases he:st.err=0
      · rw [seeV_ok he,G.pk_ge]
        intro hlt
        exact h0 (by simp [moreB,he,hlt])
      · exact seeV_no he
    go_enter Tryz.func107,Tryz.ntmps107
    go_wp2_with (go_at_call 81;refine (more_any _ b s S st hR hs hi).mono ?_;rw [h1];rintro e w' ⟨rfl,n,rfl⟩)
    go_ret
    refine ⟨ret_int ?_,_,rfl⟩
    rw [E.out]
def posOf (b:Nat) (w:World):Nat:=match w.cell? ⟨b,1,none⟩ with | some (.int _ x)=>x.toNat | _=>0
theorem Rd.pos {w:World} {b:Nat} {s:ByteArray} {S:Nat→Prop} {st:St} (h:Rd w b s S st):posOf b w=st.i:=by
  unfold posOf
  rw [h.reads.c1]
  simp
set_option maxRecDepth 100000 in
set_option maxHeartbeats 1000000 in
theorem skip_no (w:World) (b:Nat) (s:ByteArray) (S:Nat→Prop) (st:St) (hR:Rd w b s S st) (hs:s.size≤2000) (hi:st.i≤100000) (h0:st.err ≠ 0) :
    Calls Tryz.prog 80 #[.pointer (some ⟨b,0,none⟩)] w fun r w'=>r=.returned (.tuple #[])∧Rd w' b s S st∧Evo w S w' S:=by
  go_enter Tryz.func80,Tryz.ntmps80
  go_wp2
  go_loopw [2] (fun _ wr=>∃ n,wr=w.drewN n) (fun _ _=>0)
  case atStart=>exact ⟨0,rfl⟩
  case round =>
    obtain ⟨n,rfl⟩:=hrel
    go_wp2_with (go_at_call 107;refine (see_any _ b s S st (hR.drewN _) hs hi).mono ?_;rw [seeV_no h0];rintro e w' ⟨rfl,n2,rfl⟩)
    refine bodyPost_ret (results_none rfl _ _ _) rfl ?_
    exact ⟨rfl,hR.drewN _,(Evo.refl w S).drewN _⟩
set_option maxRecDepth 100000 in
set_option maxHeartbeats 1000000 in
theorem skip_any (w:World) (b:Nat) (s:ByteArray) (S:Nat→Prop) (st:St) (hR:Rd w b s S st) (hs:s.size≤2000) (hi:st.i≤s.size) (h0:st.err=0) :
    Calls Tryz.prog 80 #[.pointer (some ⟨b,0,none⟩)] w fun r w'=>r=.returned (.tuple #[])∧Rd w' b s S { st with i:=G.skip s st.i }∧Evo w S w' S:=by
  obtain ⟨hSb,_⟩:=hR.inS
  go_enter Tryz.func80,Tryz.ntmps80
  go_wp2
  go_loopw [2] (fun _ wr=>∃ j,j≤s.size∧Rd wr b s S { st with i:=j }∧Evo w S wr S∧G.skip s j=G.skip s st.i) (fun _ wr=>s.size - posOf b wr)
  case atStart=>exact ⟨st.i,hi,hR,Evo.refl w S,rfl⟩
  case round =>
    obtain ⟨j,hj,hRj,hE,hsk⟩:=hrel
    have HP:Hid (posOf b wr=j):=hRj.pos
    have HS:Hid (G.skip s j=G.skip s st.i):=hsk
    clear hsk
    by_cases h35:G.pk s j=35
    · have hlt:=G.lt_of_pk (s:=s) (i:=j) (by omega)
      have h35':U.at' s j ≠ 10:=by rw [G.pk_lt hlt] at h35;omega
      have hsee:seeV s { st with i:=j }=35:=(seeV_ok (st:={ st with i:=j }) h0).trans h35
      go_wp2_with (go_at_call 107;refine (see_any _ b s S _ hRj hs (by show j≤_;omega)).mono ?_;rw [hsee];rintro e w' ⟨rfl,n2,rfl⟩)
      go_loopw [] (fun wq=>∃ m,j≤m∧m≤s.size∧Rd wq b s S { st with i:=m }∧Evo w S wq S∧G.com s m=G.com s j) (fun wq=>s.size - posOf b wq)
      case atStart=>exact ⟨j,Nat.le_refl _,hj,hRj.drewN _,hE.drewN _,rfl⟩
      case round =>
        obtain ⟨m,hjm,hm,hRm,hEm,hcm⟩:=hrel
        have HPm:Hid (posOf b wr=m):=hRm.pos
        have HC:Hid (G.com s m=G.com s j):=hcm
        clear hcm
        obtain ⟨c0,c1,c2,c3,c4,fr⟩:=hRm.reads
        by_cases hl:m < s.size
        · by_cases h10:U.at' s m=10
          · have hg:((s[m]'hl).toNat:Int)=10:=by rw [U.at_get];omega
            have hl':(m:Int) < (s.size:Int):=by omega
            go_wp2
            go_quiet (fail)
            go_wp2
            go_roundw
            case rel =>
              have e:G.com s m=m:=G.com_end (by omega)
              exact ⟨m,hm,hRm.drewN _,hEm.drewN _,by rw [← HS.out,G.skip_com h35,← HC.out,e]⟩
            case measure =>
              have e:G.com s m=m:=G.com_end (by omega)
              have e2:=HC.out
              rw [e,G.com_step hlt h35'] at e2
              have:=G.com_ge s _ (j + 1) (Nat.le_refl _)
              rw [(hRm.drewN _).pos,HP.out]
              show s.size - m < _
              omega
          · have hg:((s[m]'hl).toNat:Int) ≠ 10:=by rw [U.at_get];omega
            have hl':(m:Int) < (s.size:Int):=by omega
            go_wp2
            go_quiet (fail)
            go_wp2
            go_roundw
            case rel=>exact ⟨m + 1,by omega,by omega,(hRm.drewN _).setI (m + 1),(hEm.drewN _).set hSb (.inl hSb) _ _,by rw [← G.com_step hl h10];exact HC.out⟩
            case measure =>
              rw [HPm.out,(hRm.drewN _).inc.pos]
              show s.size - (m + 1) < _
              omega
        · have hl':¬ (m:Int) < (s.size:Int):=by omega
          go_wp2
          go_quiet (fail)
          go_wp2
          go_roundw
          case rel =>
            have e:G.com s m=m:=G.com_end (by omega)
            exact ⟨m,hm,hRm.drewN _,hEm.drewN _,by rw [← HS.out,G.skip_com h35,← HC.out,e]⟩
          case measure =>
            rw [(hRm.drewN _).pos,HP.out]
            show s.size - m < _
            omega
    · have hsee:seeV s { st with i:=j }=G.pk s j:=seeV_ok (st:={ st with i:=j }) h0
      by_cases hbl:G.pk s j=32 ∨ G.pk s j=9 ∨ G.pk s j=10
      · have hlt:=G.lt_of_pk (s:=s) (i:=j) (by omega)
        obtain ⟨c0,c1,c2,c3,c4,fr⟩:=hRj.reads
        generalize hp:G.pk s j=p at h35 hsee hbl
        have HB:Hid (G.pk s j=p):=hp
        clear hp
        rcases hbl with rfl | rfl | rfl
        all_goals
          go_wp2_with (go_at_call 107;refine (see_any _ b s S _ hRj hs (by show j≤_;omega)).mono ?_;rw [hsee];rintro e w' ⟨rfl,n2,rfl⟩)
          go_roundw
          case rel=>exact ⟨j + 1,by omega,(hRj.drewN _).setI (j + 1),(hE.drewN _).set hSb (.inl hSb) _ _,by rw [← HS.out,G.skip_blank (i:=j) (by have:=HB.out;omega)]⟩
          case measure =>
            rw [HP.out,(hRj.drewN _).inc.pos]
            show s.size - (j + 1) < _
            omega
      · have e:G.skip s j=j:=G.skip_end h35 hbl
        generalize hp:G.pk s j=p at h35 hsee hbl
        have HB:Hid (G.skip s j=j):=e
        clear e hp
        have hb1:(p != 32)=true:=by simp;omega
        have hb2:(p != 9)=true:=by simp;omega
        have hb3:(p != 10)=true:=by simp;omega
        go_wp2_with (go_at_call 107;refine (see_any _ b s S _ hRj hs (by show j≤_;omega)).mono ?_;rw [hsee];rintro e w' ⟨rfl,n2,rfl⟩)
        refine bodyPost_ret (results_none rfl _ _ _) rfl ?_
        refine ⟨rfl,?_,hE.drewN _⟩
        rw [← HS.out,HB.out]
        exact hRj.drewN _
end Rf
end Go.Proofs.YtpgcidpghmoibaaGreatDoor

namespace Go.Proofs.YtpgcidpghmoibaaGreatDoor
namespace Rf
open Go.RowKit
open G (PNode)
structure RoAt (w:World) (b:Nat) (T:List PNode) (Q:List Nat) (cs:Array Value) (vN vR:Value) (V:List (Value × Value)):Prop where
  blk:w.heap[b]?=some (.cells cs 36 (0,0))
  c5:cs[5]?=some vN
  c7:cs[7]?=some vR
  len:V.length=T.length
  oN:w.ownsRow 0 118 5 vN T.length (ncells T V)
  oR:w.ownsRow 0 3 1 vR Q.length (ints Q)
  oV:∀ (k:Nat) (x:PNode) (v:Value × Value),T[k]?=some x→V[k]?=some v→w.ownsRow 0 201 2 v.1 x.ranges.length (rcells x.ranges)∧w.ownsRow 0 3 1 v.2 x.parts.length (ints x.parts)
theorem RoAt.below {w w':World} {b:Nat} {T:List PNode} {Q:List Nat} {cs:Array Value} {vN vR:Value} {V:List (Value × Value)} (h:RoAt w b T Q cs vN vR V) (hb:Below w.heap.size w w'):RoAt w' b T Q cs vN vR V where
  blk:=by rw [hb.block b (lt_of_block h.blk)];exact h.blk
  c5:=h.c5
  c7:=h.c7
  len:=h.len
  oN:=own_same h.oN (fun k e=>hb.block k (h.oN.lt k e).2)
  oR:=own_same h.oR (fun k e=>hb.block k (h.oR.lt k e).2)
  oV k x v hx hv:=⟨own_same (h.oV k x v hx hv).1 (fun j e=>hb.block j ((h.oV k x v hx hv).1.lt j e).2),own_same (h.oV k x v hx hv).2 (fun j e=>hb.block j ((h.oV k x v hx hv).2.lt j e).2)⟩
theorem RdAt.ro {w:World} {b:Nat} {s:ByteArray} {st:St} {vN vM vR:Value} {V:List (Value × Value)} (h:RdAt w b s st vN vM vR V):RoAt w b st.T st.rules (rcellsOf s st vN vM vR) vN vR V:=⟨h.blk,rfl,rfl,h.len,h.oN,h.oR,h.oV⟩
theorem own_cell' {w:World} {b e size n g cap:Nat} {xs:List Value} {u:Value} (h:w.ownsRow b e size (.slice (some ⟨g,0,none⟩) n cap) n xs) (j:Nat) (hu:xs[j]?=some u):w.cell? ⟨g,j,none⟩=some u:=by
  have:=h.cells (g:=g) rfl j u hu
  by_cases e:j=0
  · subst e;exact this
  · simpa [Addr.add,e] using this
set_option maxRecDepth 100000 in
set_option maxHeartbeats 1000000 in
theorem places_any (w:World) (b:Nat) (T:List PNode) (Q:List Nat) (cs:Array Value) (vN vR:Value) (V:List (Value × Value)) (h:RoAt w b T Q cs vN vR V) (hQ:∀ q ∈ Q,q < T.length) (hT:∀ x ∈ T,x.size≤101) (hql:Q.length≤100000) (htl:T.length≤100000) :
    Calls Tryz.prog 18 #[.pointer (some ⟨b,0,none⟩)] w fun e w'=>e=.returned (.int .i64 ((G.sizeOf T Q:Nat):Int))∧∃ n,w'=w.drewN n:=by
  obtain ⟨ra,rc,hre⟩:=own_len h.oR
  subst hre
  have c7:=cell_blk h.blk 7 _ h.c7
  have c5:=cell_blk h.blk 5 _ h.c5
  go_enter Tryz.func18,Tryz.ntmps18
  go_wp2
  go_loopw [3,4] (fun nn i wr=>∃ k:Nat,k≤Q.length∧i=.int .i64 k∧nn=.int .i64 ((G.sizeOf T (Q.take k):Nat):Int)∧∃ n,wr=w.drewN n) (fun _ i _=>Q.length - (intOf i).toNat)
  case atStart=>exact ⟨0,by omega,rfl,rfl,0,rfl⟩
  case round =>
    obtain ⟨k,hk,rfl,rfl,n,rfl⟩:=hrel
    by_cases hlt:k < Q.length
    · have hqk:Q[k]?=some (Q[k]'hlt):=List.getElem?_eq_getElem hlt
      generalize Q[k]'hlt=q at hqk
      have hqT:=hQ q (List.mem_of_getElem? hqk)
      have hxT:T[q]?=some (T[q]'hqT):=List.getElem?_eq_getElem hqT
      generalize T[q]'hqT=x at hxT
      obtain ⟨u,hu⟩:∃ u,V[q]?=some u:=⟨V[q]'(by rw [h.len];exact hqT),List.getElem?_eq_getElem _⟩
      obtain ⟨g,cap,hv,_,_⟩:=h.oN.form (by omega)
      obtain ⟨gr,capr,hvr,_,_⟩:=h.oR.form (by omega)
      simp only [Value.slice.injEq] at hvr
      obtain ⟨rfl,_,rfl⟩:=hvr
      subst hv
      have cN:w.cell? ⟨g,q * 5 + 4,none⟩=some (.int .i64 (x.size:Int)):=own_cell' h.oN (q * 5 + 4) ((ncells_get hxT hu 4 (by omega)).trans rfl)
      have cQ:w.cell? ⟨gr,k,none⟩=some (.int .i64 (q:Int)):=own_cell' h.oR k (by simp [ints,hqk])
      have hx101:=hT x (List.mem_of_getElem? hxT)
      have hst:G.sizeOf T (Q.take (k + 1))=G.sizeOf T (Q.take k) + x.size:=by
        have e:Q[k]'hlt=q:=(List.getElem?_eq_some_iff.1 hqk).2
        rw [List.take_succ_eq_append_getElem hlt,e]
        simp [G.sizeOf,G.sz_eq hxT]
      have hsl:G.sizeOf T (Q.take k)≤101 * k:=by
        have:∀ l:List Nat,G.sizeOf T l≤101 * l.length:=by
          intro l
          induction l with
          | nil=>simp [G.sizeOf]
          | cons p l ih =>
            have:G.sz T p≤101:=by
              unfold G.sz
              cases hp:T[p]? with
              | none=>simp
              | some y=>exact hT y (List.mem_of_getElem? hp)
            simp only [G.sizeOf,List.map_cons,List.sum_cons,List.length_cons] at *
            omega
        have h2:=this (Q.take k)
        have h3:(Q.take k).length≤k:=List.length_take_le _ _
        omega
      have HS:Hid _:=hst
      clear hst
      generalize G.sizeOf T (Q.take k)=sm at *
      have hsm:sm≤10100000:=by omega
      go_wp2
      go_quiet (fail)
      go_wp2
      go_roundw
      case rel=>exact ⟨k + 1,by omega,by go_num,by rw [HS.out];go_num,_,rfl⟩
      case measure=>simp [intOf];omega
    · obtain rfl:k=Q.length:=by omega
      rw [List.take_length]
      go_wp2
      go_ret
      exact ⟨rfl,_,rfl⟩
theorem any_take {α:Type} (f:α→Bool) (l:List α) (k:Nat) (x:α) (hx:l[k]?=some x):(l.take (k + 1)).any f=((l.take k).any f || f x):=by
  have hk:k < l.length:=(List.getElem?_eq_some_iff.1 hx).1
  have e:l[k]'hk=x:=(List.getElem?_eq_some_iff.1 hx).2
  rw [List.take_succ_eq_append_getElem hk,e]
  simp
theorem inV_hit {x:PNode} {c:Int} {r:Nat × Nat} (hr:G.runeB c=true) (hm:r ∈ x.ranges) (hw:G.within c r=true):G.inV x c=!x.other:=by
  have h:x.ranges.any (G.within c)=true:=List.any_eq_true.2 ⟨r,hm,hw⟩
  simp [G.inV,hr,h]
theorem inV_miss {x:PNode} {c:Int} (h:G.runeB c=true→x.ranges.any (G.within c)=false):G.inV x c=x.other:=by
  unfold G.inV
  rw [if_neg]
  intro h2
  simp only [Bool.and_eq_true] at h2
  have:=h h2.1
  rw [this] at h2
  exact absurd h2.2 (by simp)
set_option maxRecDepth 100000 in
set_option maxHeartbeats 1000000 in
theorem in_any (w:World) (x:PNode) (k:Nat) (sz:Int) (ra pa:Option Addr) (rc pn pc:Nat) (c:Int) (hrv:w.ownsRow 0 201 2 (.slice ra x.ranges.length rc) x.ranges.length (rcells x.ranges)) (hl:x.ranges.length≤100000) :
    Calls Tryz.prog 85 #[.agg #[.int .u8 (k:Int),.slice ra x.ranges.length rc,.bool x.other,.slice pa pn pc,.int .i64 sz],.int .i64 c] w fun e w'=>e=.returned (.bool (G.inV x c))∧Below w.heap.size w w':=by
  have hb:=heap_alloc_new w (.cells #[.int .u8 (k:Int),.slice ra x.ranges.length rc,.bool x.other,.slice pa pn pc,.int .i64 sz] 118)
  have cb1:=cell_blk hb 1 (.slice ra x.ranges.length rc) rfl
  have cb2:=cell_blk hb 2 (.bool x.other) rfl
  have HBl:Hid (Below w.heap.size w (w.alloc (.cells #[.int .u8 (k:Int),.slice ra x.ranges.length rc,.bool x.other,.slice pa pn pc,.int .i64 sz] 118))):=(Below.refl _ _).alloc (Nat.le_refl _) _
  clear hb
  go_enter Tryz.func85,Tryz.ntmps85
  go_wp2
  all_goals
    rcases Bool.eq_false_or_eq_true (G.runeB c) with hru | hru
  all_goals first
    | (exfalso
       simp only [G.runeB,Bool.and_eq_true,Bool.or_eq_true,decide_eq_true_eq] at hru
       omega)
    | (exfalso
       simp only [G.runeB,Bool.and_eq_false_iff,Bool.or_eq_false_iff,decide_eq_false_iff_not] at hru
       omega)
    | skip
  all_goals
    go_loop [6] (fun i=>∃ j:Nat,j≤x.ranges.length∧i=.int .i64 j∧(G.runeB c=true→(x.ranges.take j).any (G.within c)=false)) (fun i=>x.ranges.length - (intOf i).toNat)
    case atStart=>exact ⟨0,by omega,rfl,fun _=>rfl⟩
    case round =>
      obtain ⟨j,hj,rfl,hall⟩:=hrel
      have HA:Hid (G.runeB c=true→(x.ranges.take j).any (G.within c)=false):=hall
      clear hall
      by_cases hlt:j < x.ranges.length
      · have hrj:x.ranges[j]?=some (x.ranges[j]'hlt):=List.getElem?_eq_getElem hlt
        generalize x.ranges[j]'hlt=r at hrj
        obtain ⟨g,cap,hv,_,_⟩:=hrv.form (by omega)
        simp only [Value.slice.injEq] at hv
        obtain ⟨rfl,_,rfl⟩:=hv
        have hgl:g < w.heap.size:=(hrv.lt g rfl).2
        have cr0:w.cell? ⟨g,j * 2,none⟩=some (.int .i64 (r.1:Int)):=own_cell' hrv (j * 2 + 0) ((rcells_get hrj 0 (by omega)).trans rfl)
        have cr1:w.cell? ⟨g,j * 2 + 1,none⟩=some (.int .i64 (r.2:Int)):=own_cell' hrv (j * 2 + 1) ((rcells_get hrj 1 (by omega)).trans rfl)
        have hat:=any_take (G.within c) x.ranges j r hrj
        have HT:Hid _:=hat
        clear hat
        have HRU:Hid _:=hru
        clear hru
        go_wp2
        all_goals first
          | (exfalso
             have h:=HRU.out
             simp only [G.runeB,Bool.and_eq_true,Bool.or_eq_true,decide_eq_true_eq] at h
             omega)
          | (exfalso
             have h:=HRU.out
             simp only [G.runeB,Bool.and_eq_false_iff,Bool.or_eq_false_iff,decide_eq_false_iff_not] at h
             omega)
          | (go_ret
             exact ⟨ret_bool (inV_hit HRU.out (List.mem_of_getElem? hrj) (by simp [G.within];omega)).symm,HBl.out⟩)
          | (go_ret
             exact ⟨ret_bool (inV_miss (fun h=>by rw [HRU.out] at h;cases h)).symm,HBl.out⟩)
          | (go_round
             case rel=>exact ⟨j + 1,by omega,by go_num,fun h=>by rw [HT.out,HA.out h];simp [G.within];omega⟩
             case measure=>simp [intOf];omega)
      · have e:j=x.ranges.length:=by omega
        have HM:Hid (G.inV x c=x.other):=inV_miss (fun h=>by have:=HA.out h;rwa [e,List.take_length] at this)
        clear HA e hru
        go_wp2
        all_goals
          go_ret
          exact ⟨ret_bool HM.out.symm,HBl.out⟩
end Rf
end Go.Proofs.YtpgcidpghmoibaaGreatDoor
