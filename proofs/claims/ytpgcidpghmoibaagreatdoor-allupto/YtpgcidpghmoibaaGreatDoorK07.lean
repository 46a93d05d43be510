/-
  THE PROGRAM's READER
  THE PROGRAM's READER
  THE LIBRARY's ContainsRune at the two texts of barred chars
  THE PROGRAM's READER
-/
import Derived.Test.YtpgcidpghmoibaaGreatDoorK06
import Derived.Lib.Strings
import Derived.Lib.RuneCountTail
namespace Go.Proofs.YtpgcidpghmoibaaGreatDoor
namespace Pr
open Go.RowKit
open Rf (Kept)
def escV (s:ByteArray) (i:Nat):Nat × Nat:=match G.esc s i with
  | some (x,j)=>(x,j - (i + 1))
  | none=>(0,0)
theorem esc_self {s:ByteArray} {i:Nat} {x:Nat} (h:G.pk s (i + 1)=(x:Int)) (hx:G.self (x:Int)=true):escV s i=(x,1):=by
  have e:G.esc s i=some (x,i + 2):=by
    rw [G.esc,if_pos (by rw [h];exact hx),h]
    rfl
  rw [escV,e]
  show (x,i + 2 - (i + 1))=_
  congr 1
  omega
theorem esc_n {s:ByteArray} {i:Nat} (h:G.pk s (i + 1)=110):escV s i=(10,1):=by
  have e:G.esc s i=some (10,i + 2):=by
    rw [G.esc,if_neg (by rw [h];decide),if_pos h]
  rw [escV,e]
  show (10,i + 2 - (i + 1))=_
  congr 1
  omega
theorem esc_t {s:ByteArray} {i:Nat} (h:G.pk s (i + 1)=116):escV s i=(9,1):=by
  have e:G.esc s i=some (9,i + 2):=by
    rw [G.esc,if_neg (by rw [h];decide),if_neg (by omega),if_pos h]
  rw [escV,e]
  show (9,i + 2 - (i + 1))=_
  congr 1
  omega
theorem esc_u {s:ByteArray} {i:Nat} (h:G.pk s (i + 1)=117):escV s i=numV s i:=by
  unfold escV numV
  rw [G.esc,if_neg (by rw [h];decide),if_neg (by omega),if_neg (by omega)]
  by_cases hc:i + 6≤s.size∧G.hexs s (i + 2)=true∧(G.hexv s (i + 2) < 55296 ∨ 57344≤G.hexv s (i + 2))
  · rw [if_pos ⟨h,hc⟩,if_pos hc]
    show (_,i + 6 - (i + 1))=_
    congr 1
    omega
  · rw [if_neg (fun h=>hc h.2),if_neg hc]
theorem esc_no {s:ByteArray} {i:Nat} (h:G.self (G.pk s (i + 1))=false) (h1:G.pk s (i + 1) ≠ 110) (h2:G.pk s (i + 1) ≠ 116) (h3:G.pk s (i + 1) ≠ 117):escV s i=(0,0):=by
  have e:G.esc s i=none:=by
    rw [G.esc,if_neg (by rw [h];decide),if_neg h1,if_neg h2,if_neg (fun h=>h3 h.1)]
  rw [escV,e]
set_option maxRecDepth 100000 in
set_option maxHeartbeats 1000000 in
theorem escaped_any (s:ByteArray) (i:Nat) (w:World) (hs:s.size≤2000) (hi:i + 1≤s.size) (hT:Tabs w) :
    Calls Tryz.prog 176 #[.string (s.extract (i + 1) s.size)] w fun e w'=>e=.returned (.tuple #[.int .i32 ((escV s i).1:Int),.int .i64 ((escV s i).2:Int)])∧Below w.heap.size w w':=by
  have hsz:=extract_size s (i + 1) hi
  have hN:=numbered_any s i w hs hi hT
  by_cases h0:i + 1 < s.size
  · have hg:∀ h,((s.extract (i + 1) s.size)[0]'h).toNat=U.at' s (i + 1):=by
      intro h
      rw [ByteArray.getElem_extract,U.at_get]
    have hpk:G.pk s (i + 1)=(U.at' s (i + 1):Int):=G.pk_lt h0
    obtain ⟨rest,hrest,hgr⟩:∃ r,r=s.extract (i + 1) s.size∧∀ h:0 < r.size,(r[0]'h).toNat=U.at' s (i + 1):=⟨_,rfl,hg⟩
    rw [← hrest] at hsz hN ⊢
    clear hrest hg
    have hl:0 < rest.size:=by omega
    have hl':(0:Int) < (rest.size:Int):=by omega
    have hemp:rest.toList.isEmpty=false:=by
      rw [← decide_eq_emptyBytes]
      exact decide_eq_false (fun h=>by rw [h] at hl;cases hl)
    have hb:=U.at_lt s (i + 1)
    have hg2:=hgr hl
    clear hgr
    rcases (by
      by_cases a1:U.at' s (i + 1)=39 ∨ U.at' s (i + 1)=92 ∨ U.at' s (i + 1)=91 ∨ U.at' s (i + 1)=93 ∨ U.at' s (i + 1)=45 ∨ U.at' s (i + 1)=94
      · exact .inl a1
      · exact .inr a1:(U.at' s (i + 1)=39 ∨ U.at' s (i + 1)=92 ∨ U.at' s (i + 1)=91 ∨ U.at' s (i + 1)=93 ∨ U.at' s (i + 1)=45 ∨ U.at' s (i + 1)=94) ∨ ¬ (U.at' s (i + 1)=39 ∨ U.at' s (i + 1)=92 ∨ U.at' s (i + 1)=91 ∨ U.at' s (i + 1)=93 ∨ U.at' s (i + 1)=45 ∨ U.at' s (i + 1)=94)) with hx | hx
    · clear hN
      rcases hx with hx | hx | hx | hx | hx | hx
      all_goals
        have E:Hid (escV s i=(U.at' s (i + 1),1)):=esc_self hpk (by rw [hx];rfl)
        have hg3:(rest[0]'hl).toNat=U.at' s (i + 1):=hg2
        rw [hx] at hg2
        go_enter Tryz.func176,Tryz.ntmps176
        go_wp2
        go_ret2
        rw [E.out,hx]
        exact ⟨rfl,Below.refl _ _⟩
    · have hself:G.self (G.pk s (i + 1))=false:=by rw [hpk];simp [G.self];omega
      by_cases h110:U.at' s (i + 1)=110
      · have E:Hid (escV s i=(10,1)):=esc_n (by rw [hpk,h110];rfl)
        rw [h110] at hg2
        clear hN
        go_enter Tryz.func176,Tryz.ntmps176
        go_wp2
        go_ret2
        rw [E.out]
        exact ⟨rfl,Below.refl _ _⟩
      · by_cases h116:U.at' s (i + 1)=116
        · have E:Hid (escV s i=(9,1)):=esc_t (by rw [hpk,h116];rfl)
          rw [h116] at hg2
          clear hN
          go_enter Tryz.func176,Tryz.ntmps176
          go_wp2
          go_ret2
          rw [E.out]
          exact ⟨rfl,Below.refl _ _⟩
        · by_cases h117:U.at' s (i + 1)=117
          · have E:Hid (escV s i=numV s i):=esc_u (by rw [hpk,h117];rfl)
            rw [h117] at hg2
            go_enter Tryz.func176,Tryz.ntmps176
            go_wp2_with (go_at_call 189;refine hN.mono ?_;rintro e w1 ⟨rfl,hb1⟩)
            go_ret2
            rw [E.out]
            exact ⟨rfl,hb1⟩
          · have E:Hid (escV s i=(0,0)):=esc_no hself (by rw [hpk];omega) (by rw [hpk];omega) (by rw [hpk];omega)
            clear hN hself hpk
            generalize U.at' s (i + 1)=v at *
            have q1:¬ (rest[0]'hl).toNat=39:=by omega
            have q2:¬ (rest[0]'hl).toNat=92:=by omega
            have q3:¬ (rest[0]'hl).toNat=91:=by omega
            have q4:¬ (rest[0]'hl).toNat=93:=by omega
            have q5:¬ (rest[0]'hl).toNat=45:=by omega
            have q6:¬ (rest[0]'hl).toNat=94:=by omega
            have q7:¬ (rest[0]'hl).toNat=110:=by omega
            have q8:¬ (rest[0]'hl).toNat=116:=by omega
            have q9:¬ (rest[0]'hl).toNat=117:=by omega
            clear hx h110 h116 h117 hg2
            go_enter Tryz.func176,Tryz.ntmps176
            go_wp2
            go_ret2
            rw [E.out]
            exact ⟨rfl,Below.refl _ _⟩
  · have E:Hid (escV s i=(0,0)):=by
      have e:G.pk s (i + 1)=-1:=G.pk_ge h0
      exact esc_no (by rw [e];rfl) (by omega) (by omega) (by omega)
    obtain ⟨rest,hrest⟩:∃ r,r=s.extract (i + 1) s.size:=⟨_,rfl⟩
    rw [← hrest] at hsz ⊢
    clear hrest hN
    have hemp:rest.toList.isEmpty=true:=by
      rw [← decide_eq_emptyBytes]
      exact decide_eq_true (ByteArray.size_eq_zero_iff.1 (by omega))
    go_enter Tryz.func176,Tryz.ntmps176
    go_wp2
    go_ret2
    rw [E.out]
    exact ⟨rfl,Below.refl _ _⟩
end Pr
end Go.Proofs.YtpgcidpghmoibaaGreatDoor

namespace Go.Proofs.YtpgcidpghmoibaaGreatDoor
namespace Pr
open Go.RowKit
open Rf (Kept)
theorem esc_gt {s:ByteArray} {i x j:Nat} (h:G.esc s i=some (x,j)):i + 2≤j:=by
  unfold G.esc at h
  split at h
  · simp at h;omega
  · split at h
    · simp at h;omega
    · split at h
      · simp at h;omega
      · split at h
        · simp at h;omega
        · cases h
abbrev Gr (b:Nat) (w w':World):Prop:=Kept (fun k=>k ≠ b) w w'
theorem Gr.below {b:Nat} {w w':World} (h:Below w.heap.size w w'):Gr b w w':=Kept.of_below h
theorem Gr.set {b:Nat} {w w1:World} (h:Gr b w w1) (o:Nat) (v:Value):Gr b w (w1.setCell ⟨b,o,none⟩ v):=Kept.setCell h (q:=⟨b,o,none⟩) (fun hn=>hn rfl) v
def Own (b:Nat):Prop:=b ≠ 1∧b ≠ 2∧b ≠ 3
theorem Tabs.gr {b:Nat} {w w':World} (h:Tabs w) (hg:Gr b w w') (hb:Own b):Tabs w':=h.kept hg (Ne.symm hb.1) (Ne.symm hb.2.1) (Ne.symm hb.2.2)
theorem RB.below {w w':World} {b:Nat} {s:ByteArray} {c:C} {m vR:Value} (h:RB w b s c m vR) (hb:Below w.heap.size w w'):RB w' b s c m vR:=(hb.block b h.lt).trans h
def CharPost (w:World) (b:Nat) (s:ByteArray) (c:C) (m vR:Value) (o:Option (Nat × Nat)) (e:Ending) (w':World):Prop:=
  Gr b w w'∧match o with
    | some (x,j)=>e=.returned (.tuple #[.int .i32 (x:Int),.bool true])∧RB w' b s { c with i:=j } m vR
    | none=>e=.returned (.tuple #[.int .i32 0,.bool false])∧RB w' b s { c with p:=c.i,e:=2 } m vR
set_option maxRecDepth 100000 in
set_option maxHeartbeats 1000000 in
theorem escape_any (w:World) (b:Nat) (s:ByteArray) (c:C) (m vR:Value) (hR:RB w b s c m vR) (hs:s.size≤2000) (hi:c.i < s.size) (hT:Tabs w) :
    Calls Tryz.prog 169 #[.pointer (some ⟨b,0,none⟩)] w fun e w'=>CharPost w b s c m vR (G.esc s c.i) e w':=by
  obtain ⟨c0,c1,c2,c3,c4,c5,c6,fr⟩:=hR.reads
  have r0:∀ d os,(Sort.grow (redrawn w d) os).cell? ⟨b,0,none⟩=some (.string s):=fun d os=>cell_regrown c0 d os
  have r1:∀ d os,(Sort.grow (redrawn w d) os).cell? ⟨b,1,none⟩=some (.int .i64 (c.i:Int)):=fun d os=>cell_regrown c1 d os
  have h0:(0:Int)≤(c.i:Int) + 1:=by omega
  have h1:(c.i:Int) + 1≤(s.size:Int):=by omega
  have hwr:IntKind.i64.wrap ((c.i:Int) + 1)=(c.i:Int) + 1:=by
    simp [IntKind.wrap,IntKind.bits,IntKind.signed]
    omega
  have hN:∀ d os,Calls Tryz.prog 176 #[.string (s.extract (c.i + 1) s.size)] (Sort.grow (redrawn w d) os) fun e w''=>e=.returned (.tuple #[.int .i32 ((escV s c.i).1:Int),.int .i64 ((escV s c.i).2:Int)])∧∃ p:Regrown,w''=Sort.grow (redrawn w p.d) p.os:=
    fun d os=>Calls.regrown_of (escaped_any s c.i _ hs hi (hT.below (below_regrown w d os)))
  cases he:G.esc s c.i with
  | none =>
    have e0:escV s c.i=(0,0):=by rw [escV,he]
    rw [e0] at hN
    clear he e0
    go_enter Tryz.func169,Tryz.ntmps169
    go_wp2
    refine wp_region_quiet_below (by kernel_rfl) (by kernel_rfl) ?_
    repeat (first | go_big_quiet_step (exact hN _ _) | quiet_step (exact hN _ _))
    refine wpQuiet_nil ?_
    intro _ hw'
    obtain ⟨⟨dq,osq⟩,hw''⟩:=hw'
    subst hw''
    have hbel:=below_regrown w dq osq
    have hR1:=hR.below hbel
    have HB:Hid _:=hbel
    clear hbel r0 hN
    go_wp2_with (go_at_call 127;refine (fail_any _ b s c m vR c.i 2 hR1).mono ?_;rintro e w2 ⟨rfl,hR2,hE2⟩)
    go_ret2
    exact ⟨(Gr.below HB.out).trans hE2.kept,rfl,hR2⟩
  | some q =>
    obtain ⟨x,j⟩:=q
    have hj:=esc_gt he
    have hbd:=G.esc_bd he
    have e0:escV s c.i=(x,j - (c.i + 1)):=by rw [escV,he]
    rw [e0] at hN
    clear he e0
    obtain ⟨k,hk⟩:∃ k:Nat,j=c.i + 1 + k:=⟨j - (c.i + 1),by omega⟩
    have hk1:j - (c.i + 1)=k:=by omega
    have hk0:0 < k:=by omega
    have hk2:k≤2000:=by omega
    simp only [hk1] at hN
    have HK:Hid (j=c.i + 1 + k):=hk
    clear hk1 hk hbd hj
    have hki:(0:Int) < (k:Int):=by omega
    go_enter Tryz.func169,Tryz.ntmps169
    go_wp2
    refine wp_region_quiet_below (by kernel_rfl) (by kernel_rfl) ?_
    repeat (first | go_big_quiet_step (exact hN _ _) | quiet_step (exact hN _ _))
    refine wpQuiet_nil ?_
    intro _ hw'
    obtain ⟨⟨dq,osq⟩,hw''⟩:=hw'
    subst hw''
    have hbel:=below_regrown w dq osq
    have hR1:=hR.below hbel
    obtain ⟨d0,d1,d2,d3,d4,d5,d6,dr⟩:=hR1.reads
    have HB:Hid _:=hbel
    clear hbel r0 hN
    go_wp2
    go_ret2
    have e:(c.i:Int) + (1 + (k:Int))=((j:Nat):Int):=by rw [HK.out];omega
    rw [e]
    exact ⟨(Gr.below HB.out).set _ _,rfl,hR1.setI j⟩
end Pr
end Go.Proofs.YtpgcidpghmoibaaGreatDoor

namespace Go.Proofs.YtpgcidpghmoibaaGreatDoor
namespace Pr
open Go.RowKit
open Rf (Kept)
theorem valid_of (x:Nat) (hx:x≤1114111) (hv:x < 55296 ∨ 57344≤x):Utf8.valid (x:Int)=true:=by
  unfold Utf8.valid
  simp
  omega
theorem ofNat_ge (n:Nat) (h:n < 64):128≤(UInt8.ofNat (128 + n)).toNat:=by
  rw [UInt8.toNat_ofNat']
  omega
theorem enc_two (x:Nat) (h:128≤x) (h2:x < 2048):∃ r:ByteArray,Utf8.encode (x:Int)=r∧r.size=2∧∀ hr:1 < r.size,128≤(r[1]'hr).toNat:=by
  refine ⟨⟨#[UInt8.ofNat (0xC0 + x / 64),UInt8.ofNat (0x80 + x % 64)]⟩,?_,rfl,fun _=>ofNat_ge (x % 64) (by omega)⟩
  unfold Utf8.encode
  simp only [valid_of x (by omega) (by omega),if_true,Int.toNat_natCast]
  rw [if_neg (by omega),if_pos (by omega)]
theorem enc_more (x:Nat) (h:2048≤x) (hx:x≤1114111) (hv:x < 55296 ∨ 57344≤x):∃ r:ByteArray,Utf8.encode (x:Int)=r∧3≤r.size∧r.size≤4:=by
  refine ⟨_,rfl,?_⟩
  unfold Utf8.encode
  simp only [valid_of x hx hv,if_true,Int.toNat_natCast]
  rw [if_neg (by omega),if_neg (by omega)]
  split
  · exact ⟨Nat.le_refl 3,Nat.le_succ 3⟩
  · exact ⟨Nat.le_succ 3,Nat.le_refl 4⟩
def Barred (t:ByteArray):Prop:=t=⟨#[39]⟩ ∨ t=⟨#[93,45]⟩
set_option maxRecDepth 100000 in
set_option maxHeartbeats 2000000 in
theorem indexr_big (t:ByteArray) (ht:Barred t) (x:Nat) (h:128≤x) (hx:x≤1114111) (hv:x < 55296 ∨ 57344≤x) (hn:x ≠ 65533) (w:World) :
    Calls Tryz.prog 178 #[.string t,.int .i32 (x:Int)] w fun e w'=>e=.returned (.int .i64 (-1))∧∃ n,w'=w.drewN n:=by
  have hval:Lib.validRune (x:Int)=true:=by
    unfold Lib.validRune
    simp
    omega
  have hts:t.size≤2:=by rcases ht with rfl | rfl <;> decide
  have n1:¬ (x:Int) < 128:=by omega
  have n2:¬ (x:Int)=65533:=by omega
  have hE1:=enc_two x h
  have hE2:=enc_more x
  obtain ⟨y,hy⟩:∃ y:Int,y=(x:Int):=⟨_,rfl⟩
  rw [← hy] at hval n1 n2 ⊢
  have y0:0≤y:=by omega
  rw [← hy] at hE1 hE2
  by_cases h2:x < 2048
  · have hE:=hE1 h2
    clear hE1 hE2 hv hx hn hy
    obtain ⟨rs,hrs,s2,hb⟩:=hE
    have hb1:=hb (by omega)
    have hne:¬ (rs[1]'(by omega)).toNat=45:=by omega
    have hne2:¬ (45:Nat)=(rs[1]'(by omega)).toNat:=by omega
    have hlt:=UInt8.toNat_lt (rs[1]'(by omega))
    clear hb
    have hcv:∀ w,Sem.run Tryz.prog (convert 21 9 (Value.int .i32 y)) w=.ok (.string rs) w:=by
      intro w
      rw [← hrs]
      rfl
    clear hrs
    rcases ht with rfl | rfl
    · go_enter Tryz.func178,Tryz.ntmps178
      go_wp2_with (go_at_call 117;refine (Tryz.utf8_ValidRune _ _).mono ?_;rw [hval];rintro e w2 ⟨rfl,rfl⟩)
      go_step3
      go_wp2
      go_loopw [9] (fun v wr=>v=.int .i64 1∧wr=w2) (fun _ _=>0)
      case atStart=>exact ⟨rfl,rfl⟩
      case round =>
        obtain ⟨rfl,rfl⟩:=hrel
        go_wp2
        try rw [Exit.noGoto_ret]
        go_ret
        exact ⟨rfl,0,rfl⟩
    · have hix:=Tryz.strings_IndexByte ByteArray.empty ((rs[1]'(by omega)).toNat:Int)
      have hix2:∀ w,Calls Tryz.prog 123 #[.string ByteArray.empty,.int .u8 ((rs[1]'(by omega)).toNat:Int)] w fun e w'=>e=.returned (.int .i64 (-1))∧w'=w:=by
        intro w
        exact hix w
      clear hix
      have hx1:(1:Int) < (rs.size:Int):=by omega
      have hw2:IntKind.i64.wrap 2=2:=by decide
      have hbb:((((⟨#[93,45]⟩:ByteArray)[1]'(by decide)).toNat:Int) != ((rs[1]'(by omega)).toNat:Int))=true:=by
        have e:((⟨#[93,45]⟩:ByteArray)[1]'(by decide)).toNat=45:=rfl
        rw [e]
        simp
        omega
      go_enter Tryz.func178,Tryz.ntmps178
      go_wp2_with (go_at_call 117;refine (Tryz.utf8_ValidRune _ _).mono ?_;rw [hval];rintro e w2 ⟨rfl,rfl⟩)
      go_step3
      go_wp2
      go_loopw [9] (fun v wr=>v=.int .i64 1∧wr=w2) (fun _ _=>0)
      case atStart=>exact ⟨rfl,rfl⟩
      case round =>
        obtain ⟨rfl,rfl⟩:=hrel
        go_wp2
        go_step3
        go_wp2
        go_quiet (fail)
        go_wp2
        generalize hwd:wr.drewN nq=wd
        have HWD:Hid (wr.drewN nq=wd):=hwd
        clear hwd
        refine wp_region_quiet_lit (by kernel_rfl) (by kernel_rfl) ?_
        repeat (first | go_big_quiet_step ((go_at_call 123;refine Calls.quiet_of_same (hix2 _))) | quiet_step ((go_at_call 123;refine Calls.quiet_of_same (hix2 _))))
        refine wpQuiet_nil ?_
        intro _ hw'
        obtain ⟨n3,hw''⟩:=hw'
        subst hw''
        go_wp2
        simp +zetaDelta only [Exit.noGoto_ret,Exit.inBlock,Exit.then]
        go_ret
        exact ⟨rfl,nq + n3,by rw [← HWD.out];exact drewN_drewN _ _ _⟩
  · have hE:=hE2 (by omega) hx hv
    clear hE1 hE2 hv hx hn hy
    obtain ⟨rs,hrs,s2,s3⟩:=hE
    have hcv:∀ w,Sem.run Tryz.prog (convert 21 9 (Value.int .i32 y)) w=.ok (.string rs) w:=by
      intro w
      rw [← hrs]
      rfl
    clear hrs
    have hge:¬ (rs.size:Int) - 1 < 2:=by omega
    have hge1:¬ (rs.size:Int) - 1 < 1:=by omega
    rcases ht with rfl | rfl
    all_goals
      go_enter Tryz.func178,Tryz.ntmps178
      go_wp2_with (go_at_call 117;refine (Tryz.utf8_ValidRune _ _).mono ?_;rw [hval];rintro e w2 ⟨rfl,rfl⟩)
      go_step3
      go_wp2
      go_loopw [9] (fun v wr=>v=.int .i64 ((rs.size:Int) - 1)∧wr=w2) (fun _ _=>0)
      case atStart=>exact ⟨rfl,rfl⟩
      case round =>
        obtain ⟨rfl,rfl⟩:=hrel
        go_wp2
        try rw [Exit.noGoto_ret]
        go_ret
        exact ⟨rfl,0,rfl⟩
set_option maxRecDepth 100000 in
set_option maxHeartbeats 2000000 in
theorem indexr_err (t:ByteArray) (ht:Barred t) (w:World) :
    Calls Tryz.prog 178 #[.string t,.int .i32 65533] w fun e w'=>e=.returned (.int .i64 (-1))∧Below w.heap.size w w':=by
  have hts:∀ p,p < t.size→(Utf8.decode t p).1 ≠ 65533∧p + (Utf8.decode t p).2≤t.size∧0 < (Utf8.decode t p).2:=by
    rcases ht with rfl | rfl
    · intro p hp
      have:p=0:=by simp [ByteArray.size] at hp;exact hp
      subst this
      decide
    · intro p hp
      have:p=0 ∨ p=1:=by simp [ByteArray.size] at hp;omega
      rcases this with rfl | rfl <;> decide
  clear ht
  go_enter Tryz.func178,Tryz.ntmps178
  go_wp2
  go_loopw [5] (fun _ wr=>∃ pos:Nat,wr.heap[w.heap.size]?=some (.stringIter t pos)∧Below w.heap.size w wr∧pos≤t.size) (fun _ wr=>t.size - wr.iterPos w.heap.size)
  case atStart=>exact ⟨0,World.iter_heap w t 0,(Below.refl _ _).alloc (Nat.le_refl _) _,Nat.zero_le _⟩
  case round =>
    obtain ⟨pos,hit,hbw,hle⟩:=hrel
    have hpos0:=iterPos_of hit
    by_cases hp:pos < t.size
    · have hnx:∀ ty,(Instr.next (.pointer (some ⟨w.heap.size,0,none⟩)) true ty).run Tryz.prog wr=_:=fun ty=>Lib.run_next_any_at wr w.heap.size t pos ty hit hp
      obtain ⟨q1,q2,q3⟩:=hts pos hp
      have hit2:=Lib.iterAt_heap wr w.heap.size t pos (pos + (Utf8.decode t pos).2) hit
      have hbw2:=Lib.below_iterAt hbw (k:=w.heap.size) (Nat.le_refl _) t (pos + (Utf8.decode t pos).2)
      obtain ⟨W1,hW1⟩:∃ W1,W1=wr.iterAt w.heap.size t (pos + (Utf8.decode t pos).2):=⟨_,rfl⟩
      rw [← hW1] at hnx hit2 hbw2
      clear hW1 hit hbw hts
      have hne:¬ ((Utf8.decode t pos).1:Int)=65533:=by omega
      go_wp2
      go_roundw
      case rel=>exact ⟨_,hit2,hbw2,q2⟩
      case measure =>
        rw [iterPos_of hit2,hpos0]
        omega
    · have hnx:∀ ty,(Instr.next (.pointer (some ⟨w.heap.size,0,none⟩)) true ty).run Tryz.prog wr=_:=fun ty=>Lib.run_next_end_at wr w.heap.size t pos ty hit hp
      clear hts
      go_wp2
      go_ret
      exact ⟨rfl,hbw⟩
def barB (t:ByteArray) (x:Nat):Bool:=t.data.toList.any fun b=>decide (b.toNat=x)
theorem indexByte_has:∀ (l:List UInt8) (x:Nat),x < 256→decide (0≤Lib.indexByte l x.toUInt8)=l.any fun b=>decide (b.toNat=x)
  | [],x,_=>rfl
  | b :: l,x,hx=>by
    have ih:=indexByte_has l x hx
    have hge:=Lib.indexByte_ge l x.toUInt8
    have hb:b=x.toUInt8 ↔ b.toNat=x:=by
      constructor
      · intro e
        rw [e]
        simp
        omega
      · intro e
        rw [← e]
        simp
    rw [Lib.indexByte,List.any_cons,← ih]
    by_cases h:b.toNat=x
    · rw [if_pos (by simpa using hb.2 h)]
      simp [h]
    · rw [if_neg (by simpa using fun e=>h (hb.1 e))]
      simp only [h,decide_false,Bool.false_or]
      by_cases h1:Lib.indexByte l x.toUInt8=-1
      · rw [if_pos (by simpa using h1),h1]
      · rw [if_neg (by simpa using h1)]
        rw [Bool.eq_iff_iff]
        simp only [decide_eq_true_eq]
        omega
set_option maxRecDepth 100000 in
set_option maxHeartbeats 1000000 in
theorem contains_any (t:ByteArray) (ht:Barred t) (x:Nat) (hx:x≤1114111) (hv:x < 55296 ∨ 57344≤x) (w:World) :
    Calls Tryz.prog 171 #[.string t,.int .i32 (x:Int)] w fun e w'=>e=.returned (.bool (barB t x))∧Below w.heap.size w w':=by
  by_cases h:x < 128
  · have:=Tryz.strings_ContainsRune_ascii t (x:Int) w (by omega) (by omega)
    refine this.mono ?_
    rintro e w' ⟨rfl,rfl⟩
    refine ⟨?_,Below.refl _ _⟩
    rw [show (x:Int).toNat=x from rfl,indexByte_has t.data.toList x (by omega)]
    rfl
  · have hf:barB t x=false:=by
      rcases ht with rfl | rfl
      · simp [barB];omega
      · simp [barB];omega
    rw [hf]
    have hN:Calls Tryz.prog 178 #[.string t,.int .i32 (x:Int)] w fun e w'=>e=.returned (.int .i64 (-1))∧Below w.heap.size w w':=by
      by_cases h2:x=65533
      · subst h2
        exact indexr_err t ht w
      · refine (indexr_big t ht x (by omega) hx hv h2 w).mono ?_
        rintro e w' ⟨rfl,n,rfl⟩
        exact ⟨rfl,(Kept.drewN (Kept.refl (fun _=>True) w) n).all⟩
    clear hf
    generalize (x:Int)=y at hN ⊢
    go_enter Tryz.func171,Tryz.ntmps171
    go_wp2_with (go_at_call 178;refine hN.mono ?_;rintro e w1 ⟨rfl,hb⟩)
    go_ret
    exact ⟨rfl,hb⟩
end Pr
end Go.Proofs.YtpgcidpghmoibaaGreatDoor

namespace Go.Proofs.YtpgcidpghmoibaaGreatDoor
namespace Pr
open Go.RowKit
open Rf (Kept)
theorem dec_cases (s:ByteArray) (i:Nat) (h:128≤U.at' s i):(Utf8.decode s i=(65533,1)∧G.well s i=false) ∨
    (2≤(Utf8.decode s i).2∧128≤(Utf8.decode s i).1∧(Utf8.decode s i).1≤1114111∧((Utf8.decode s i).1 < 55296 ∨ 57344≤(Utf8.decode s i).1)∧G.well s i=true):=by
  have hl:=U.at_lt s i
  have hw:G.well s i=if U.at' s i < 192 ∨ 248≤U.at' s i then false else decide ((Utf8.decode s i).2 ≠ 1):=by
    rw [G.well,if_neg (by omega)]
  rw [hw]
  by_cases hb:U.at' s i < 192 ∨ 248≤U.at' s i
  · left
    exact ⟨U.decBad s i h hb,by rw [if_pos hb]⟩
  · rw [if_neg hb]
    by_cases h2:U.at' s i < 224
    · rw [U.dec2 s i (by omega) h2]
      split
      · rename_i hc
        have:=(U.tl_iff s (i + 1)).1 hc.1
        right
        simp only
        exact ⟨by omega,by omega,by omega,by omega,by simp⟩
      · left
        exact ⟨rfl,by decide⟩
    · by_cases h3:U.at' s i < 240
      · rw [U.dec3 s i (by omega) h3]
        split
        · rename_i hc
          have:=(U.tl_iff s (i + 1)).1 hc.1.1
          have:=(U.tl_iff s (i + 2)).1 hc.1.2
          right
          simp only
          exact ⟨by omega,by omega,by omega,by omega,by simp⟩
        · left
          exact ⟨rfl,by decide⟩
      · rw [U.dec4 s i (by omega) (by omega)]
        split
        · rename_i hc
          right
          simp only
          exact ⟨by omega,by omega,by omega,by omega,by simp⟩
        · left
          exact ⟨rfl,by decide⟩
def Bars (t:ByteArray) (a b:Int):Prop:=(t=⟨#[39]⟩∧a=39∧b=39) ∨ (t=⟨#[93,45]⟩∧a=93∧b=45)
theorem Bars.bar {t:ByteArray} {a b:Int} (h:Bars t a b):Barred t:=by
  rcases h with ⟨h,_⟩ | ⟨h,_⟩
  · exact .inl h
  · exact .inr h
theorem Bars.bs {t:ByteArray} {a b:Int} (h:Bars t a b):a ≠ 92∧b ≠ 92∧0 < a∧0 < b∧a < 128∧b < 128:=by
  rcases h with ⟨_,rfl,rfl⟩ | ⟨_,rfl,rfl⟩ <;> decide
theorem Bars.has {t:ByteArray} {a b:Int} (h:Bars t a b) (x:Nat):barB t x=decide ((x:Int)=a ∨ (x:Int)=b):=by
  rcases h with ⟨rfl,rfl,rfl⟩ | ⟨rfl,rfl,rfl⟩
  · rw [Bool.eq_iff_iff]
    simp [barB]
    omega
  · rw [Bool.eq_iff_iff]
    simp [barB]
    omega
set_option maxRecDepth 100000 in
set_option maxHeartbeats 1000000 in
theorem char_esc (w:World) (k:Nat) (s:ByteArray) (c:C) (m vR:Value) (t:ByteArray) (hR:RB w k s c m vR) (hs:s.size≤2000) (hi:c.i≤s.size) (hT:Tabs w) (h92:G.pk s c.i=92) :
    Calls Tryz.prog 160 #[.pointer (some ⟨k,0,none⟩),.string t] w fun e w'=>CharPost w k s c m vR (G.esc s c.i) e w':=by
  have hpe:=peek_any w k s c m vR hR hs hi
  have hlt:=G.lt_of_pk (s:=s) (i:=c.i) (by omega)
  rw [(pkV_eq (by omega)).2 h92] at hpe
  have hN:∀ n,_:=fun n=>escape_any (w.drewN n) k s c m vR (hR.drewN n) hs hlt (hT.below ((Kept.drewN (Kept.refl (fun _=>True) w) n).all))
  clear h92 hlt
  cases he:G.esc s c.i with
  | none =>
    rw [he] at hN
    clear he
    go_enter Tryz.func160,Tryz.ntmps160
    go_wp2_with (first
      | (go_at_call 98;refine hpe.mono ?_;rintro e w1 ⟨rfl,n,rfl⟩)
      | (go_at_call 169;refine (hN n).mono ?_;rintro e w2 ⟨hg,rfl,hR2⟩))
    go_ret2
    exact ⟨(Kept.drewN (Kept.refl _ w) n).trans hg,rfl,hR2⟩
  | some q =>
    obtain ⟨x,j⟩:=q
    rw [he] at hN
    clear he
    go_enter Tryz.func160,Tryz.ntmps160
    go_wp2_with (first
      | (go_at_call 98;refine hpe.mono ?_;rintro e w1 ⟨rfl,n,rfl⟩)
      | (go_at_call 169;refine (hN n).mono ?_;rintro e w2 ⟨hg,rfl,hR2⟩))
    go_ret2
    exact ⟨(Kept.drewN (Kept.refl _ w) n).trans hg,rfl,hR2⟩
def decO (t:ByteArray) (i X K:Nat):Option (Nat × Nat):=if X=65533∧K≤1 then none else if barB t X=true then none else some (X,i + K)
set_option maxRecDepth 100000 in
set_option maxHeartbeats 1000000 in
theorem char_dec (w:World) (k:Nat) (s:ByteArray) (c:C) (m vR:Value) (t:ByteArray) (ht:Barred t) (X K:Nat) (hR:RB w k s c m vR) (hs:s.size≤2000) (hi:c.i≤s.size) (hT:Tabs w) (h92:¬ G.pk s c.i=92)
    (hD:Lib.decodeGo (s.extract c.i s.size)=(X,K)) (hX:X≤1114111) (hv:X < 55296 ∨ 57344≤X) (hK:c.i + K≤s.size) :
    Calls Tryz.prog 160 #[.pointer (some ⟨k,0,none⟩),.string t] w fun e w'=>CharPost w k s c m vR (decO t c.i X K) e w':=by
  have hpe:=peek_any w k s c m vR hR hs hi
  have hne:=pkV_ne (s:=s) (i:=c.i) (c:=92) (by omega) h92
  obtain ⟨c0,c1,c2,c3,c4,c5,c6,fr⟩:=hR.reads
  have h0:(0:Int)≤(c.i:Int):=by omega
  have h1:(c.i:Int)≤(s.size:Int):=by omega
  clear h92
  generalize pkV s c.i=pv at hpe hne
  have hC:∀ w,_:=fun w=>contains_any t ht X hX hv w
  have hdc:∀ w,Tabs w→_:=fun w hT=>Tryz.utf8_DecodeRuneInString (s.extract c.i s.size) w hT.utf
  rw [hD] at hdc
  simp only at hdc
  obtain ⟨Y,hY⟩:∃ Y:Int,Y=(X:Int):=⟨_,rfl⟩
  have HY:Hid (Y=(X:Int)):=hY
  simp only [← hY] at hC hdc
  have y0:0≤Y:=by omega
  have y1:Y≤1114111:=by omega
  by_cases hn:X=65533∧K≤1
  · have hY5:Y=65533:=by omega
    have hK1:(K:Int)≤1:=by omega
    rw [show decO t c.i X K=none by rw [decO,if_pos hn]]
    clear hn hY hD HY hX hv hK
    go_enter Tryz.func160,Tryz.ntmps160
    go_wp2_with (go_at_call 98;refine hpe.mono ?_;rintro e w1 ⟨rfl,n,rfl⟩)
    have hRn:=hR.drewN n
    have hTn:Tabs (w.drewN n):=hT.below ((Kept.drewN (Kept.refl (fun _=>True) w) n).all)
    have hKn:Gr k w (w.drewN n):=Kept.drewN (Kept.refl _ w) n
    have r0:∀ d os,(Sort.grow (redrawn (w.drewN n) d) os).cell? ⟨k,0,none⟩=some (.string s):=fun d os=>cell_regrown c0 d os
    have r1:∀ d os,(Sort.grow (redrawn (w.drewN n) d) os).cell? ⟨k,1,none⟩=some (.int .i64 (c.i:Int)):=fun d os=>cell_regrown c1 d os
    have hN:∀ d os,_:=
      fun d os=>Calls.regrown_of (hdc _ (hTn.below (below_regrown (w.drewN n) d os)))
    clear hdc
    generalize w.drewN n=wn at *
    refine wp_region_quiet_below (by kernel_rfl) (by kernel_rfl) ?_
    repeat (first | go_big_quiet_step (exact hN _ _) | quiet_step (exact hN _ _))
    refine wpQuiet_nil ?_
    intro _ hw'
    obtain ⟨⟨dq,osq⟩,hw''⟩:=hw'
    subst hw''
    have hbel:=below_regrown wn dq osq
    have hR1:=hRn.below hbel
    have HB:Hid _:=hbel
    clear hbel r0 hN
    go_wp2_with (go_at_call 127;refine (fail_any _ k s c m vR c.i 2 hR1).mono ?_;rintro e w2 ⟨rfl,hR2,hE2⟩)
    go_ret2
    exact ⟨(hKn.trans (Gr.below HB.out)).trans hE2.kept,rfl,hR2⟩
  · have hkl:K≤2000:=by omega
    cases hb:barB t X with
    | true =>
      rw [hb] at hC
      rw [show decO t c.i X K=none by rw [decO,if_neg hn,if_pos hb]]
      rcases (by omega:(Y=65533∧1 < K) ∨ ¬ Y=65533) with ⟨rfl,hK1⟩ | hY5
      all_goals
        clear hn hY hD HY hX hv hb
        go_enter Tryz.func160,Tryz.ntmps160
        go_wp2_with (go_at_call 98;refine hpe.mono ?_;rintro e w1 ⟨rfl,n,rfl⟩)
        have hRn:=hR.drewN n
        have hTn:Tabs (w.drewN n):=hT.below ((Kept.drewN (Kept.refl (fun _=>True) w) n).all)
        have hKn:Gr k w (w.drewN n):=Kept.drewN (Kept.refl _ w) n
        have r0:∀ d os,(Sort.grow (redrawn (w.drewN n) d) os).cell? ⟨k,0,none⟩=some (.string s):=fun d os=>cell_regrown c0 d os
        have r1:∀ d os,(Sort.grow (redrawn (w.drewN n) d) os).cell? ⟨k,1,none⟩=some (.int .i64 (c.i:Int)):=fun d os=>cell_regrown c1 d os
        have hN:∀ d os,_:=
          fun d os=>Calls.regrown_of (hdc _ (hTn.below (below_regrown (w.drewN n) d os)))
        clear hdc
        generalize w.drewN n=wn at *
        refine wp_region_quiet_below (by kernel_rfl) (by kernel_rfl) ?_
        repeat (first | go_big_quiet_step (exact hN _ _) | quiet_step (exact hN _ _))
        refine wpQuiet_nil ?_
        intro _ hw'
        obtain ⟨⟨dq,osq⟩,hw''⟩:=hw'
        subst hw''
        have hbel:=below_regrown wn dq osq
        have hR1:=hRn.below hbel
        have HB:Hid _:=hbel
        clear hbel r0 hN
        generalize Sort.grow (redrawn wn dq) osq=wg at *
        go_wp2_with (first
          | (go_at_call 127;refine (fail_any w3 k s c m vR c.i 2 hR3).mono ?_;rintro e w2 ⟨rfl,hR2,hE2⟩)
          | (go_at_call 171;refine (hC wg).mono ?_;rintro e w3 ⟨rfl,hb3⟩;have hR3:=hR1.below hb3;obtain ⟨d0,d1,d2,d3,d4,d5,d6,dr⟩:=hR3.reads))
        go_ret2
        exact ⟨((hKn.trans (Gr.below HB.out)).trans (Gr.below hb3)).trans hE2.kept,rfl,hR2⟩
    | false =>
      rw [hb] at hC
      rw [show decO t c.i X K=some (X,c.i + K) by rw [decO,if_neg hn,if_neg (by rw [hb];decide)]]
      rcases (by omega:(Y=65533∧1 < K) ∨ ¬ Y=65533) with ⟨rfl,hK1⟩ | hY5
      all_goals
        clear hn hY hD hX hv hb
        go_enter Tryz.func160,Tryz.ntmps160
        go_wp2_with (go_at_call 98;refine hpe.mono ?_;rintro e w1 ⟨rfl,n,rfl⟩)
        have hRn:=hR.drewN n
        have hTn:Tabs (w.drewN n):=hT.below ((Kept.drewN (Kept.refl (fun _=>True) w) n).all)
        have hKn:Gr k w (w.drewN n):=Kept.drewN (Kept.refl _ w) n
        have r0:∀ d os,(Sort.grow (redrawn (w.drewN n) d) os).cell? ⟨k,0,none⟩=some (.string s):=fun d os=>cell_regrown c0 d os
        have r1:∀ d os,(Sort.grow (redrawn (w.drewN n) d) os).cell? ⟨k,1,none⟩=some (.int .i64 (c.i:Int)):=fun d os=>cell_regrown c1 d os
        have hN:∀ d os,_:=
          fun d os=>Calls.regrown_of (hdc _ (hTn.below (below_regrown (w.drewN n) d os)))
        clear hdc
        generalize w.drewN n=wn at *
        refine wp_region_quiet_below (by kernel_rfl) (by kernel_rfl) ?_
        repeat (first | go_big_quiet_step (exact hN _ _) | quiet_step (exact hN _ _))
        refine wpQuiet_nil ?_
        intro _ hw'
        obtain ⟨⟨dq,osq⟩,hw''⟩:=hw'
        subst hw''
        have hbel:=below_regrown wn dq osq
        have hR1:=hRn.below hbel
        have HB:Hid _:=hbel
        clear hbel r0 hN
        generalize Sort.grow (redrawn wn dq) osq=wg at *
        go_wp2_with (go_at_call 171;refine (hC wg).mono ?_;rintro e w3 ⟨rfl,hb3⟩;have hR3:=hR1.below hb3;obtain ⟨d0,d1,d2,d3,d4,d5,d6,dr⟩:=hR3.reads)
        go_ret2
        refine ⟨Gr.set ((hKn.trans (Gr.below HB.out)).trans (Gr.below hb3)) _ _,?_,hR3.add K⟩
        rw [← HY.out]
        rfl
theorem char_any (w:World) (k:Nat) (s:ByteArray) (c:C) (m vR:Value) (t:ByteArray) (a b:Int) (hab:Bars t a b) (hR:RB w k s c m vR) (hs:s.size≤2000) (hi:c.i≤s.size) (hT:Tabs w) :
    Calls Tryz.prog 160 #[.pointer (some ⟨k,0,none⟩),.string t] w fun e w'=>CharPost w k s c m vR (G.chr s a b c.i) e w':=by
  have hbs:=hab.bs
  by_cases h92:G.pk s c.i=92
  · have e:G.chr s a b c.i=G.esc s c.i:=by
      rw [G.chr,if_neg (by omega),if_pos h92]
    rw [e]
    exact char_esc w k s c m vR t hR hs hi hT h92
  · by_cases hlt:c.i < s.size
    · have hpk:=G.pk_lt hlt
      have hsz:=extract_size s c.i hi
      have hD:Lib.decodeGo (s.extract c.i s.size)=Utf8.decode s c.i:=by
        rw [Lib.decodeGo,if_neg (by omega),Lib.tail_decode]
        rfl
      have hwd:=U.width s c.i hlt
      by_cases h8:U.at' s c.i < 128
      · rw [U.dec1 s c.i h8] at hD
        have h:=char_dec w k s c m vR t hab.bar _ _ hR hs hi hT h92 hD (by omega) (by omega) (by omega)
        have e:decO t c.i (U.at' s c.i) 1=G.chr s a b c.i:=by
          rw [decO,if_neg (by omega),hab.has,G.chr,hpk]
          by_cases hx:((U.at' s c.i:Int)=a ∨ (U.at' s c.i:Int)=b)
          · rw [if_pos (by simpa using hx),if_pos (.inr hx)]
          · rw [if_neg (by simpa using hx),if_neg (by omega),if_neg (by rw [← hpk];exact h92),if_pos (by rw [G.well,if_pos h8]),U.dec1 s c.i h8]
        rw [e] at h
        exact h
      · rcases dec_cases s c.i (by omega) with ⟨d1,d2⟩ | ⟨d1,d2,d3,d4,d5⟩
        · rw [d1] at hD
          have h:=char_dec w k s c m vR t hab.bar _ _ hR hs hi hT h92 hD (by omega) (by omega) (by omega)
          have e:decO t c.i 65533 1=G.chr s a b c.i:=by
            rw [decO,if_pos ⟨rfl,Nat.le_refl _⟩,G.chr,if_neg (by omega),if_neg h92,if_neg (by rw [d2];decide)]
          rw [e] at h
          exact h
        · have h:=char_dec w k s c m vR t hab.bar (Utf8.decode s c.i).1 (Utf8.decode s c.i).2 hR hs hi hT h92 hD d3 d4 hwd.2
          have e:decO t c.i (Utf8.decode s c.i).1 (Utf8.decode s c.i).2=G.chr s a b c.i:=by
            rw [decO,if_neg (by omega),hab.has,if_neg (by simp;omega),G.chr,if_neg (by omega),if_neg h92,if_pos d5]
          rw [e] at h
          exact h
    · have hpk:=G.pk_ge hlt
      have hD:Lib.decodeGo (s.extract c.i s.size)=(65533,0):=by
        rw [Lib.decodeGo,if_pos (by rw [extract_size s c.i hi];omega)]
      have h:=char_dec w k s c m vR t hab.bar _ _ hR hs hi hT h92 hD (by omega) (by omega) (by omega)
      have e:decO t c.i 65533 0=G.chr s a b c.i:=by
        rw [decO,if_pos ⟨rfl,Nat.zero_le _⟩,G.chr,if_pos (.inl (by omega))]
      rw [e] at h
      exact h
end Pr
end Go.Proofs.YtpgcidpghmoibaaGreatDoor
