import PyProof.Rows.All
import Wide.All
import OpenK.AllK
import Wide.FinOn
import HandS.ForMost
import HandS.Wide
import KE.KExcSuper
import HandS.ForSpec
import HandS.ExcInit
import HandS.ExcField
import HandS.TryMany
import HandS.FStr
import HandS.DictComp
import HandS.Conv
import HandS.ClsMeth
import HandS.Nested
import KE.Datum
import HandS.IsInst
import HandS.Codes
import HandS.IterVal
import KE.KOwnIter
import KE.KOpsOwn
import OpenK.KMeth
import OpenK.KOps
import HandS.OwnEq
import HandS.Star
import HandS.TupLen
import KE.KEqDict
import HandS.Defaults
import KE.KDictWalk
import HandS.Property
import HandS.Flow
import HandS.TupAny
import HandS.Deep
import KE.DatumIndex
import HandS.Zip
import HandS.Flt
import KE.KDictZip
import HandS.Zip0
import PySem.Challenge.RW_soundyard_k13_offers_taken
set_option Elab.async false
set_option linter.all false
set_option maxRecDepth 100000
set_option maxHeartbeats 4000000
namespace Yd
open PySem L2
/-! ### the text by places -/
def topS (i : Nat) : Stmt := PySem.Challenge.pw_soundyard_k13_offers_taken.main.body.getD i (.Pass ⟨0, 0, 0, 0⟩)
abbrev sWall : Stmt := topS 0
abbrev sRepeatedInit : Stmt := inClass (topS 3) 0
abbrev sUnknownInit : Stmt := inClass (topS 4) 0
abbrev sNoStepInit : Stmt := inClass (topS 5) 0
abbrev sDistinct : Stmt := topS 7
abbrev sStepsInit : Stmt := inClass (topS 8) 0
abbrev sStepsStandings : Stmt := inClass (topS 8) 1
abbrev sStepsAllow : Stmt := inClass (topS 8) 2
abbrev sStepsStepsFrom : Stmt := inClass (topS 8) 3
abbrev sDoorsInit : Stmt := inClass (topS 9) 0
abbrev sDoorsIter : Stmt := inClass (topS 9) 1
abbrev sDoorsGet : Stmt := inClass (topS 9) 2
abbrev sDoorsPut : Stmt := inClass (topS 9) 3
abbrev sDoorsNeeds : Stmt := inClass (topS 9) 4
abbrev sDoorsGives : Stmt := inClass (topS 9) 5
abbrev sPartInit : Stmt := inClass (topS 10) 0
abbrev sPartRow : Stmt := inClass (topS 10) 1
abbrev sPartFollow : Stmt := inClass (topS 10) 2
abbrev sSingleInit : Stmt := inClass (topS 11) 0
abbrev sSingleRow : Stmt := inClass (topS 11) 1
abbrev sSingleTwin : Stmt := inClass (topS 11) 2
abbrev sManyInit : Stmt := inClass (topS 12) 0
abbrev sManyRow : Stmt := inClass (topS 12) 1
abbrev sManyTwin : Stmt := inClass (topS 12) 2
abbrev sHoldInit : Stmt := inClass (topS 14) 0
abbrev sHoldIter : Stmt := inClass (topS 14) 1
abbrev sHoldLen : Stmt := inClass (topS 14) 2
abbrev sHoldIn : Stmt := inClass (topS 14) 3
abbrev sHoldLe : Stmt := inClass (topS 14) 4
abbrev sHoldEq : Stmt := inClass (topS 14) 5
abbrev sHoldOr : Stmt := inClass (topS 14) 6
abbrev sHoldAnd : Stmt := inClass (topS 14) 7
abbrev sHoldSub : Stmt := inClass (topS 14) 8
abbrev sStandingsOf : Stmt := topS 16
abbrev sSiteInit : Stmt := inClass (topS 17) 0
abbrev sSiteSingles : Stmt := inClass (topS 17) 1
abbrev sSiteSpots : Stmt := inClass (topS 17) 2
abbrev sSiteFirstPlaces : Stmt := inClass (topS 17) 3
abbrev sSitePresent : Stmt := inClass (topS 17) 4
abbrev sSiteOpened : Stmt := inClass (topS 17) 5
abbrev sSiteGiver : Stmt := inClass (topS 17) 6
abbrev sSiteUnmet : Stmt := inClass (topS 17) 7
abbrev sSiteCheck : Stmt := inClass (topS 17) 8
abbrev sSiteOffered : Stmt := inClass (topS 17) 9
abbrev sSiteCheckNames : Stmt := inClass (topS 17) 10
abbrev sSiteAllStandings : Stmt := inClass (topS 17) 11
abbrev sSiteSingleStandings : Stmt := inClass (topS 17) 12
abbrev sSiteManyStandings : Stmt := inClass (topS 17) 13
abbrev sSiteNeedsAt : Stmt := inClass (topS 17) 14
abbrev sSiteGivesAt : Stmt := inClass (topS 17) 15
abbrev sSiteLeads : Stmt := inClass (topS 17) 16
abbrev sPool : Stmt := topS 19
abbrev sTake : Stmt := topS 20
abbrev sBase : Stmt := topS 21
abbrev sName : Stmt := topS 22
abbrev sSome : Stmt := topS 23
abbrev sKind : Stmt := topS 24
abbrev sKinds : Stmt := topS 25
abbrev sParts : Stmt := topS 26
abbrev sSpots : Stmt := topS 27
abbrev sPlaces : Stmt := topS 28
abbrev sPresent : Stmt := topS 29
abbrev sUnmet : Stmt := topS 30
abbrev sOffered : Stmt := topS 31
abbrev sOpened : Stmt := topS 32
abbrev sIsTuple : Stmt := topS 33
abbrev sTaken : Stmt := topS 34
abbrev sAgrees : Stmt := topS 35
abbrev sOffer : Stmt := topS 36
abbrev sLaw : Stmt := topS 37
end Yd
namespace Yd
open PySem L2
/-! ### tests whose answer is known -/
theorem yes {b : Bool} {A B : Prop} (e : b = true) (h : A) : if b = true then A else B := by subst e; exact (if_pos rfl).mpr h
theorem no {b : Bool} {A B : Prop} (e : b = false) (h : B) : if b = true then A else B := by subst e; exact (if_neg Bool.false_ne_true).mpr h
/-! ### the drawing of a script: the pool, a draw, the base of the names, a name -/
/-- what holds of the list of the pool at p (its cells, if it has some, at c) -/
def PoolL (H : Hp) (p c : Addr) (xs : List V) : Prop :=
  (c = p ∧ ∃ n : Int, xs = [.int n]) ∨ ∃ (x i : Int) (cs : List Int), xs = [.int x, .int i, .ref c] ∧ c ≠ p ∧ H c = some (.lst (cs.map V.int)) ∧ 0 < cs.length ∧ cs.length ≤ 63 ∧ (∀ z ∈ cs, 0 ≤ z ∧ z < 65537) ∧ 0 ≤ x ∧ x < 65537
def Pool (H : Hp) (p c : Addr) : Prop := ∃ xs, H p = some (.lst xs) ∧ PoolL H p c xs
theorem Pool.two {H : Hp} {p c : Addr} (h : Pool H p c) : (∃ o, H p = some o) ∧ ∃ o, H c = some o := by
  obtain ⟨xs, e, q⟩ := h
  refine ⟨⟨_, e⟩, ?_⟩
  rcases q with ⟨rfl, _⟩ | ⟨x, i, cs, _, _, e3, _⟩
  · exact ⟨_, e⟩
  · exact ⟨_, e3⟩
theorem Pool.ne {H : Hp} {p c q : Addr} (h : Pool H p c) (n : H q = none) : q ≠ p ∧ q ≠ c := by
  obtain ⟨⟨o, e⟩, u, e'⟩ := h.two
  exact ⟨(ne_of_none e n).symm, (ne_of_none e' n).symm⟩
theorem Pool.keep {H H' : Hp} {p c : Addr} (h : Pool H p c) (hp : ∀ o, H p = some o → H' p = some o) (hc : ∀ o, H c = some o → H' c = some o) : Pool H' p c := by
  obtain ⟨xs, e, q⟩ := h
  refine ⟨xs, hp _ e, ?_⟩
  rcases q with q | ⟨x, i, cs, e1, e2, e3, q⟩
  · exact .inl q
  · exact .inr ⟨x, i, cs, e1, e2, hc _ e3, q⟩
/-- all but p is as it was, and there may be more -/
def Gro (p : Addr) (H H' : Hp) : Prop := ∀ b o, H b = some o → b ≠ p → H' b = some o
theorem Gro.rfl' {p : Addr} {H : Hp} : Gro p H H := fun _ _ e _ => e
theorem Gro.trans {p : Addr} {H H1 H2 : Hp} (a : Gro p H H1) (b : Gro p H1 H2) : Gro p H H2 := fun q o e n => b q o (a q o e n) n
theorem Gro.new {p q : Addr} {H : Hp} {o : HO} (n : H q = none) : Gro p H (upd H q o) := fun b u e _ => by rw [upd_ne (ne_of_none e n)]; exact e
theorem Gro.own {p : Addr} {H : Hp} {o : HO} : Gro p H (upd H p o) := fun b u e n => by rw [upd_ne n]; exact e
theorem Gro.of_same {p : Addr} {H H' : Hp} (s : Same H H') : Gro p H H' := fun b o e _ => s b o e
theorem Gro.free {p q : Addr} {H H' : Hp} (g : Gro p H H') (n : H' q = none) (hq : q ≠ p) : H q = none := by
  cases e : H q with
  | none => rfl
  | some o => rw [g q o e hq] at n; cases n
theorem Pool.off {H : Hp} {p c q : Addr} {o : HO} (h : Pool H p c) (n1 : q ≠ p) (n2 : q ≠ c) : Pool (upd H q o) p c :=
  h.keep (fun u e => by rw [upd_ne n1.symm]; exact e) fun u e => by rw [upd_ne n2.symm]; exact e
theorem Pool.new {p c q : Addr} {H : Hp} {o : HO} (h : Pool H p c) (n : H q = none) : Pool (upd H q o) p c :=
  h.keep (fun u e => by rw [upd_ne (ne_of_none e n)]; exact e) fun u e => by rw [upd_ne (ne_of_none e n)]; exact e

def spPool (K : PySem.W.Frag) : Sp := fun vs H Q _ => ∃ (a : Addr) (ns : List Int), vs = [.ref a] ∧ SqL K H a (ns.map V.int) ∧ ns.length ≤ 63 ∧
  ∀ p c H', Same H H' → H p = none → (c = p ∨ H c = none) → Pool H' p c → Q (.ref p) H'
def spTake : Sp := fun vs H Q _ => ∃ (p c : Addr) (n : Int), vs = [.ref p, .int n] ∧ Pool H p c ∧ 0 < n ∧ n.natAbs < 2 ^ 200 ∧
  ∀ v H', 0 ≤ v → v < n → Gro p H H' → Pool H' p c → Q (.int v) H'
/-- the signs of a base -/
def Sgn (z : Str) : Prop := ∀ s ∈ z.cps.toList, s ∈ ("mnopqrstuvwxyz0123456789" : Str).cps.toList
def spBase (m : Nat) : Sp := fun vs H Q _ => ∃ (p c : Addr), vs = [.ref p] ∧ Pool H p c ∧
  ∀ z H', z.length < m → Sgn z → Gro p H H' → Pool H' p c → Q (.str z) H'
def kSigns : List Nat := ("afkdibglejch" : Str).cps.toList
/-- the name number k: its sign between two texts of the base's signs -/
def NameK (k : Nat) (z : Str) : Prop := z.length ≤ 12 ∧ ∃ (s : Nat) (a b : Str), kSigns[k]? = some s ∧ z = a ++ (⟨#[s]⟩ : Str) ++ b ∧ Sgn a ∧ Sgn b
def spName : Sp := fun vs H Q _ => ∃ (p c : Addr) (b : Str) (k : Nat), vs = [.ref p, .str b, .int k] ∧ Pool H p c ∧ b.length ≤ 11 ∧ Sgn b ∧ k < 12 ∧
  ∀ z H', NameK k z → Gro p H H' → Pool H' p c → Q (.str z) H'

/-- the built-ins that the drawing reads -/
structure Blt (mg : Str → Option Value) : Prop where
  len : mg "len" = none
  int : mg "int" = none
  range : mg "range" = none

section
variable {P : Program} {w : World} {K : PySem.W.Frag} {mg : Str → Option Value} {base : Heap}
theorem get_map {ns : List Int} {i : Nat} {x : V} (h : (ns.map V.int)[i]? = some x) : ∃ z, ns[i]? = some z ∧ x = .int z := by
  rw [List.getElem?_map] at h
  cases e : ns[i]? with
  | none => rw [e] at h; cases h
  | some z => rw [e] at h; exact ⟨z, rfl, (Option.some.inj h).symm⟩
def nPool : List Str := ["_law_script", "_law_cell"]
theorem scPool : FnScope nPool ["_law_script"] (defScope sPool) := ⟨rfl, rfl, rfl, by decide +kernel, rfl, by decide +kernel, by decide +kernel⟩
theorem ok_pool {f : Addr} {fd : FuncData} (F : Fun K "_law_pool" "_law_pool" sPool f fd) (B : Blt mg) : FnOk P w K mg base CX0 1 f fd ["_law_script"] (spPool K) := by
  refine F.ok scPool (fun vs H Q E h => ?_) (fun cdv A outer s H vs Q E hr h => ?_)
  · obtain ⟨a, ns, rfl, _⟩ := h
    rfl
  · obtain ⟨a, ns, rfl, hS, hlen, k⟩ := h
    refine ⟨_, pss_cons (ps_if (pt_cmpR op_eq (pe_callB call_len_seq (by rfl) B.len PySem.boot_len (pa_cons (pv 0) pa_nil)) pe_int (nomark _)) (pss_one (ps_ret (pe_lst (pa_cons pe_int pa_nil)))) pss_nil)
      (pss_cons (ps_if (pt_cmpR op_ge (pe_ix ix_list (pv 0) pe_int (fun _ _ => rfl)) (pe_op op_pow pe_int pe_int) (nomark _))
        (pss_one (ps_ret (pe_lst (pa_cons (pe_op op_sub (pe_ix ix_list (pv 0) pe_int (fun _ _ => rfl)) (pe_op op_pow pe_int pe_int)) pa_nil)))) pss_nil)
      (pss_one (ps_ret (pe_lst (pa_cons pe_int (pa_cons pe_int (pa_cons
        (pe_lc (own := [("_law_cell", 1)]) (g := gName 1) (tt := tYes) rfl scPool.nd (pi_list (pv 0)) (blkOk_by (N := nPool) (sc := defScope sPool) (by decide +kernel))
          (fun _ _ _ _ _ => pg_name (i := 1) scPool.nd rfl (Or.inl rfl)) (fun _ _ _ _ _ => pts_nil)
          (fun _ _ _ _ _ => pe_op op_mod (pe_callTy call_int1 (by rfl) B.int (by decide +kernel) (pa_cons (pv 1) pa_nil)) pe_int)) pa_nil))))))), ?_⟩
    refine ⟨_, rfl, a, _, rfl, .inl hS, rfl, _, rfl, ?_⟩
    rw [List.length_map]
    by_cases h0 : ns.length = 0
    · have e : decide (V.int (ns.length : Int) = V.int 0) = true := decide_eq_true (by rw [h0]; rfl)
      rw [e]
      refine iteT ⟨(by show 1 ≤ sizeLine; decide), fun p hp => ?_⟩
      exact k p p _ (fun b o q => by rw [upd_ne (ne_of_none q hp)]; exact q) hp (.inl rfl) ⟨_, upd_same, .inl ⟨rfl, 0, rfl⟩⟩
    · have e : decide (V.int (ns.length : Int) = V.int 0) = false := decide_eq_false (fun q => h0 (by injection q with q; omega))
      rw [e]
      refine iteF ?_
      obtain ⟨n0, hn0⟩ : ∃ n0, ns[0]? = some n0 := ⟨ns[0], List.getElem?_eq_getElem (by omega)⟩
      have at0 : atI (ns.map V.int) 0 = some (V.int n0) := atI_nat (j := 0) (by rw [List.getElem?_map, hn0]; rfl)
      refine ⟨_, rfl, a, _, 0, _, rfl, rfl, hS, at0, 10, 18, rfl, rfl, ⟨by decide, by decide, by decide⟩, _, _, rfl, rfl, _, rfl, ?_⟩
      refine ite2 (fun _ => ?_) (fun _ => ?_)
      · refine ⟨_, rfl, a, _, 0, _, rfl, rfl, hS, at0, 10, 18, rfl, rfl, ⟨by decide, by decide, by decide⟩, _, _, rfl, rfl, (by show 1 ≤ sizeLine; decide), fun p hp => ?_⟩
        exact k p p _ (fun b o q => by rw [upd_ne (ne_of_none q hp)]; exact q) hp (.inl rfl) ⟨_, upd_same, .inl ⟨rfl, _, rfl⟩⟩
      · refine ⟨_, rfl, a, rfl, ⟨_, hS⟩, fun D hD => ?_⟩
        refine lc_list (K := K) (a := a) (xs := ns.map V.int) (fun i H' => Same H H' ∧ ∃ cs : List Int, H' D = some (.lst (cs.map V.int)) ∧ cs.length = i ∧ ∀ z ∈ cs, 0 ≤ z ∧ z < 65537)
          ⟨fun b o q => by rw [upd_ne (ne_of_none q hD)]; exact q, [], upd_same, rfl, fun z hz => nomatch hz⟩ (fun i H' _ ⟨s5, _⟩ => s5.seq hS) ?_ ?_
        · rintro i x H' hi ⟨s5, cs, hcs, hcl, hb⟩
          obtain ⟨z, hz, rfl⟩ := get_map hi
          have hil : i < ns.length := (List.getElem?_eq_some_iff.mp hz).1
          refine ⟨rfl, _, rfl, .inl ⟨z, rfl, z, 65537, rfl, rfl, (by show (0 : Int) < 65537; decide), cs.map V.int, hcs, small1000 (by rw [List.length_map]; omega), ?_⟩⟩
          refine ⟨fun b o q => ?_, cs ++ [z % 65537], ?_, by rw [List.length_append, hcl]; rfl, fun y hy => ?_⟩
          · have nb : b ≠ D := ne_of_none q hD
            rw [upd_ne nb]
            exact s5 b o q
          · rw [upd_same, List.map_append]
            rfl
          · rcases List.mem_append.mp hy with hy | hy
            · exact hb y hy
            · rw [List.mem_singleton.mp hy]
              exact ⟨Int.emod_nonneg _ (by decide), Int.emod_lt_of_pos _ (by decide)⟩
        · rintro H' ⟨s5, cs, hcs, hcl, hb⟩
          rw [List.length_map] at hcl
          refine ⟨(by show 3 ≤ sizeLine; decide), fun p hp => ?_⟩
          have npD : D ≠ p := ne_of_none hcs hp
          refine k p D _ (fun b o q => ?_) (s5.free hp) (.inr hD) ⟨_, upd_same, .inr ⟨1, 0, cs, rfl, npD, by rw [upd_ne npD]; exact hcs, by omega, by omega, hb, by decide, by decide⟩⟩
          rw [upd_ne (ne_of_none (s5 b o q) hp)]
          exact s5 b o q
end
end Yd
namespace Yd
open PySem L2
section
variable {P : Program} {w : World} {K : PySem.W.Frag} {mg : Str → Option Value} {base : Heap}
theorem scTake : FnScope ["_law_pool_here", "_law_size", "_law_value", "_law_cells"] ["_law_pool_here", "_law_size"] (defScope sTake) := ⟨rfl, rfl, rfl, by decide +kernel, rfl, by decide +kernel, by decide +kernel⟩
theorem at_c {α : Type} {xs : List α} {j : Nat} {v : α} (h : xs[j]? = some v) {z : Int} (e : z = (j : Int)) : atI xs z = some v := by rw [e]; exact atI_nat h
theorem ixN_c {n j : Nat} (h : j < n) {z : Int} (e : z = (j : Int)) : ixN n z = some j := by
  subst e
  unfold ixN
  rw [if_pos (by omega), if_pos (by omega), Int.toNat_natCast]
theorem len_one {xs : List V} {n : Int} (h : xs = [.int n]) : xs.length = 1 := by rw [h]; rfl
/-- what is left of a draw -/
theorem drawn {n v : Int} (h : 0 < n) : 0 ≤ v % n ∧ v % n < n := ⟨Int.emod_nonneg _ (by omega), Int.emod_lt_of_pos _ h⟩
theorem pow7 {x : Int} (h0 : 0 ≤ x) (h1 : x < 65537) : CPow x 7 := by
  refine ⟨by decide, by decide, ?_⟩
  have e : (65537 : Nat) < 2 ^ 64 := by decide
  omega
theorem ok_take {f : Addr} {fd : FuncData} (F : Fun K "_law_take" "_law_take" sTake f fd) (B : Blt mg) : FnOk P w K mg base CX0 1 f fd ["_law_pool_here", "_law_size"] spTake := by
  refine F.ok scTake (fun vs H Q E h => ?_) (fun cdv A outer s H vs Q E hr h => ?_)
  · obtain ⟨p, c, n, rfl, _⟩ := h
    rfl
  · obtain ⟨p, c, n, rfl, ⟨xs, hp, hx⟩, hn, hb, k⟩ := h
    refine ⟨_, pss_cons (ps_if (pt_cmpR op_eq (pe_callB call_len_seq (by rfl) B.len PySem.boot_len (pa_cons (pv 0) pa_nil)) pe_int (nomark _))
        (pss_cons (ps_set (i := 2) scTake.nd rfl (Or.inl rfl) (pe_op op_mod (pe_callTy call_int1 (by rfl) B.int (by decide +kernel) (pa_cons (pe_ix ix_list (pv 0) pe_int (fun _ _ => rfl)) pa_nil)) (pv 1)))
        (pss_cons (ps_asg (pe_op op_fdivW (pe_ix ix_list (pv 0) pe_int (fun _ _ => rfl)) (pv 1)) (pg_sub (pv 0) pe_int set_list))
        (pss_one (ps_ret (pv 2))))) pss_nil)
      (pss_cons (ps_set (i := 3) scTake.nd rfl (Or.inl rfl) (pe_ix ix_list (pv 0) pe_int (fun _ _ => rfl)))
      (pss_cons (ps_asg (pe_op op_mod (pe_callTy call_int1 (by rfl) B.int (by decide +kernel) (pa_cons (pe_op op_add (pe_op op_add (pe_op op_mul (pe_ix ix_list (pv 0) pe_int (fun _ _ => rfl)) pe_int)
          (pe_ix ix_list (pv 3) (pe_op op_mod (pe_callTy call_int1 (by rfl) B.int (by decide +kernel) (pa_cons (pe_ix ix_list (pv 0) pe_int (fun _ _ => rfl)) pa_nil)) (pe_callB call_len_seq (by rfl) B.len PySem.boot_len (pa_cons (pv 3) pa_nil))) (fun _ _ => rfl))) pe_int) pa_nil)) pe_int)
          (pg_sub (pv 0) pe_int set_list))
      (pss_cons (ps_asg (pe_op op_add (pe_ix ix_list (pv 0) pe_int (fun _ _ => rfl)) pe_int) (pg_sub (pv 0) pe_int set_list))
      (pss_cons (ps_if (pt_cmpR op_gt (pv 1) pe_int (nomark _))
        (pss_one (ps_ret (pe_op op_mod (pe_callTy call_int1 (by rfl) B.int (by decide +kernel) (pa_cons (pe_op op_pow (pe_ix ix_list (pv 0) pe_int (fun _ _ => rfl)) pe_int) pa_nil)) (pv 1)))) pss_nil)
      (pss_one (ps_ret (pe_op op_mod (pe_callTy call_int1 (by rfl) B.int (by decide +kernel) (pa_cons (pe_ix ix_list (pv 0) pe_int (fun _ _ => rfl)) pa_nil)) (pv 1)))))))), ?_⟩
    rcases hx with ⟨hcc, m, rfl⟩ | ⟨x, i, cs, rfl, hcp, hc, hl0, hl1, hcs, hx0, hx1⟩
    · refine ⟨_, rfl, p, _, rfl, .inl (SqL.of hp), rfl, _, rfl, ?_⟩
      refine yes (by rfl) ?_
      have a0 : atI [V.int m] 0 = some (V.int m) := at_c (j := 0) rfl rfl
      refine ⟨_, rfl, p, _, 0, _, rfl, rfl, SqL.of hp, a0, .inl ⟨m, rfl, _, rfl, m, n, rfl, rfl, hn, ?_⟩⟩
      refine ⟨_, rfl, p, _, 0, _, rfl, rfl, SqL.of hp, a0, _, rfl, m, n, rfl, rfl, wide_div hn hb (by decide) (by decide), ?_⟩
      refine ⟨_, rfl, p, _, 0, 0, rfl, rfl, hp, ixN_c (by show 0 < 1; omega) rfl, ?_⟩
      refine ⟨_, rfl, ?_⟩
      exact k _ _ (drawn hn).1 (drawn hn).2 .own ⟨_, upd_same, .inl ⟨hcc, _, rfl⟩⟩
    · refine ⟨_, rfl, p, _, rfl, .inl (SqL.of hp), rfl, _, rfl, ?_⟩
      refine no (by rfl) ?_
      have hn0 : 0 < ((cs.map V.int).length : Int) := by rw [List.length_map]; omega
      obtain ⟨z, hz⟩ : ∃ z, atI (cs.map V.int) (i % ((cs.map V.int).length : Int)) = some (V.int z) := by
        have d := drawn (v := i) hn0
        obtain ⟨j, ej⟩ : ∃ j : Nat, i % ((cs.map V.int).length : Int) = (j : Int) := ⟨(i % ((cs.map V.int).length : Int)).toNat, by omega⟩
        have hj : j < cs.length := by rw [List.length_map] at d ej; omega
        exact ⟨cs[j], at_c (j := j) (by rw [List.getElem?_map, List.getElem?_eq_getElem hj]; rfl) ej⟩
      refine ⟨_, rfl, p, _, 2, _, rfl, rfl, SqL.of hp, at_c (j := 2) rfl rfl, ?_⟩
      refine ⟨_, rfl, p, _, 0, _, rfl, rfl, SqL.of hp, at_c (j := 0) rfl rfl, x, 75, rfl, rfl, .inl ⟨by omega, by omega⟩, ?_⟩
      refine ⟨_, rfl, _, rfl, p, _, 1, _, rfl, rfl, SqL.of hp, at_c (j := 1) rfl rfl, .inl ⟨i, rfl, ?_⟩⟩
      refine ⟨_, rfl, c, _, rfl, .inl (SqL.of hc), i, _, rfl, rfl, hn0, ?_⟩
      refine ⟨c, _, _, _, rfl, rfl, SqL.of hc, hz, _, _, rfl, rfl, _, 74, rfl, rfl, .inl ⟨_, rfl, _, 65537, rfl, rfl, (by show (0 : Int) < 65537; decide), ?_⟩⟩
      refine ⟨_, rfl, p, _, 0, 0, rfl, rfl, hp, ixN_c (by show 0 < 3; omega) rfl, ?_⟩
      have d2 := drawn (n := 65537) (v := x * 75 + z + 74) (by decide)
      refine ⟨_, rfl, p, _, 1, _, rfl, rfl, SqL.of upd_same, at_c (j := 1) rfl rfl, _, 1, rfl, rfl, ?_⟩
      refine ⟨_, rfl, p, _, 1, 1, rfl, rfl, upd_same, ixN_c (by show 1 < 3; omega) rfl, ?_⟩
      rw [upd_upd]
      have hP : Pool (upd H p (.lst [V.int ((x * 75 + z + 74) % 65537), V.int (i + 1), V.ref c])) p c :=
        ⟨_, upd_same, .inr ⟨_, _, cs, rfl, hcp, by rw [upd_ne hcp]; exact hc, hl0, hl1, hcs, d2.1, d2.2⟩⟩
      refine ⟨_, rfl, n, 60000, rfl, rfl, _, rfl, ?_⟩
      refine ite2 (fun _ => ?_) (fun _ => ?_)
      · refine ⟨_, rfl, p, _, 0, _, rfl, rfl, SqL.of upd_same, at_c (j := 0) rfl rfl, _, 7, rfl, rfl, pow7 d2.1 d2.2, .inl ⟨_, rfl, _, rfl, _, n, rfl, rfl, hn, ?_⟩⟩
        exact k _ _ (drawn hn).1 (drawn hn).2 .own hP
      · refine ⟨_, rfl, p, _, 0, _, rfl, rfl, SqL.of upd_same, at_c (j := 0) rfl rfl, .inl ⟨_, rfl, _, rfl, _, n, rfl, rfl, hn, ?_⟩⟩
        exact k _ _ (drawn hn).1 (drawn hn).2 .own hP
end
end Yd
namespace Yd
open PySem L2
/-! ### the base and the names -/
theorem Sgn.nil : Sgn "" := fun s h => by have e : ("" : Str).cps.toList = [] := by decide +kernel
                                          rw [e] at h; cases h
theorem Sgn.app {a b : Str} (x : Sgn a) (y : Sgn b) : Sgn (a ++ b) := fun s h => by
  have e : (a ++ b).cps.toList = a.cps.toList ++ b.cps.toList := by show (a.cps ++ b.cps).toList = _; rw [Array.toList_append]
  rw [e] at h
  exact (List.mem_append.mp h).elim (x s) (y s)
theorem Sgn.cut {z : Str} (x : Sgn z) (lo hi : Option Int) : Sgn (cutS z lo hi) := fun s h => by
  have h : s ∈ ((z.cps.toList.drop (HT.sIx z.length 0 lo)).take (HT.sIx z.length z.length hi - HT.sIx z.length 0 lo)) := by simpa [cutS] using h
  exact x s (List.mem_of_mem_drop (List.mem_of_mem_take h))
theorem Sgn.one {c : Nat} (h : c ∈ ("mnopqrstuvwxyz0123456789" : Str).cps.toList) : Sgn ⟨#[c]⟩ := fun s hs => by
  have e : s = c := by simpa using hs
  rw [e]; exact h
theorem len_app (a b : Str) : (a ++ b).length = a.length + b.length := by show (a.cps ++ b.cps).size = _; rw [Array.size_append]; rfl
theorem join_ok : ∀ ys : List Str, (∀ y ∈ ys, Sgn y ∧ y.length = 1) → Sgn (Txt.join "" ys) ∧ (Txt.join "" ys).length = ys.length
  | [], _ => ⟨Sgn.nil, by decide +kernel⟩
  | [y], h => h y (List.mem_singleton.mpr rfl)
  | y :: z :: r, h => by
    have ih := join_ok (z :: r) fun q hq => h q (List.mem_cons_of_mem _ hq)
    have h0 := h y (List.mem_cons_self ..)
    have e0 : ("" : Str).length = 0 := by decide +kernel
    have e : Txt.join "" (y :: z :: r) = y ++ "" ++ Txt.join "" (z :: r) := by
      show Builtin.Str.glued "" (y :: z :: r) = y ++ "" ++ Builtin.Str.glued "" (z :: r)
      rw [StrLaws.glued_eq_join, StrLaws.glued_eq_join]
      rfl
    rw [e]
    refine ⟨(h0.1.app Sgn.nil).app ih.1, ?_⟩
    rw [len_app, len_app, ih.2, h0.2, e0, List.length_cons (a := y)]
    omega
theorem sum_ones : ∀ {ys : List Str}, (∀ y ∈ ys, Sgn y ∧ y.length = 1) → (ys.map (·.length)).sum = ys.length
  | [], _ => rfl
  | y :: r, h => by
    have ih := sum_ones (ys := r) fun q hq => h q (List.mem_cons_of_mem _ hq)
    rw [List.map_cons, List.sum_cons, ih, (h y (List.mem_cons_self ..)).2, List.length_cons]
    omega
structure Fn (K : PySem.W.Frag) (mg : Str → Option Value) (x : Str) (st : Stmt) (ps : List Str) (f : Addr) (fd : FuncData) : Prop where
  F : Fun K x x st f fd
  g : mg x = some (.ref f)
  b : Binds K fd ps []
section
variable {P : Program} {w : World} {K : PySem.W.Frag} {mg : Str → Option Value} {base : Heap}
def nBase : List Str := ["_law_pool_here", "_law_signs", "_law_k"]
theorem scBase : FnScope nBase ["_law_pool_here"] (defScope sBase) := ⟨rfl, rfl, rfl, by decide +kernel, rfl, by decide +kernel, by decide +kernel⟩
theorem sgn_at {v : Int} (h0 : 0 ≤ v) (h1 : v < 24) : ∃ c, atI ("mnopqrstuvwxyz0123456789" : Str).cps.toList v = some c ∧ c ∈ ("mnopqrstuvwxyz0123456789" : Str).cps.toList := by
  have hl : ("mnopqrstuvwxyz0123456789" : Str).cps.toList.length = 24 := by decide +kernel
  have hj : v.toNat < ("mnopqrstuvwxyz0123456789" : Str).cps.toList.length := by omega
  exact ⟨_, at_c (j := v.toNat) (z := v) (List.getElem?_eq_getElem hj) (by omega), List.getElem_mem hj⟩
theorem ok_base {f fT : Addr} {fd fdT : FuncData} (F : Fun K "_law_base" "_law_base" sBase f fd) (B : Blt mg) (T : Fn K mg "_law_take" sTake ["_law_pool_here", "_law_size"] fT fdT) : FnOk P w K mg base CX0 2 f fd ["_law_pool_here"] (spBase 12) := by
  have GT : FnOk P w K mg base CX0 1 fT fdT ["_law_pool_here", "_law_size"] spTake := ok_take T.F B
  refine F.ok scBase (fun vs H Q E h => ?_) (fun cdv A outer s H vs Q E hr h => ?_)
  · obtain ⟨p, c, rfl, _⟩ := h
    rfl
  · obtain ⟨p, c, rfl, hP, k⟩ := h
    refine ⟨_, pss_cons (ps_set (i := 1) scBase.nd rfl (Or.inr rfl) pe_str)
      (pss_one (ps_ret (pe_join pe_str (pe_lc (own := [("_law_k", 2)]) (g := gName 2) (tt := tYes) rfl scBase.nd
        (pi_range1 rfl B.range (pa_cons (pe_call GT hr rfl T.g T.F.kp T.b .nil pass0 (pa_cons (pv 0) (pa_cons pe_int pa_nil))) pa_nil))
        (blkOk_by (N := nBase) (sc := defScope sBase) (by decide +kernel))
        (fun _ _ _ _ _ => pg_name (i := 2) scBase.nd rfl (Or.inl rfl)) (fun _ _ _ _ _ => pts_nil)
        (fun _ _ _ _ _ => pe_ix ix_str (pv 1) (pe_call GT hr rfl T.g T.F.kp T.b .nil pass0 (pa_cons (pv 0) (pa_cons pe_int pa_nil))) (fun _ _ => rfl)))))), ?_⟩
    refine ⟨⟨_, rfl⟩, _, rfl, p, c, 12, rfl, hP, by decide, by decide, fun n H1 n0 n1 g1 P1 => ⟨n, rfl, by omega, by omega, fun D hD => ?_⟩⟩
    obtain ⟨nDp, nDc⟩ := P1.ne hD
    refine lc_range (lo := 0) (n := n.toNat) (fun i H' => Gro p H H' ∧ Pool H' p c ∧ ∃ ys : List Str, H' D = some (.lst (ys.map V.str)) ∧ ys.length = i ∧ ∀ y ∈ ys, Sgn y ∧ y.length = 1)
      ⟨g1.trans (.new hD), P1.new hD, [], upd_same, rfl, fun y hy => nomatch hy⟩ ?_ ?_
    · rintro i H' hi ⟨g5, P5, ys, hys, hyl, hb⟩
      refine ⟨rfl, _, rfl, _, rfl, p, c, 24, rfl, P5, by decide, by decide, fun v H6 v0 v1 g6 P6 => ?_⟩
      obtain ⟨ch, hch, hm⟩ := sgn_at v0 v1
      have h6 : H6 D = some (.lst (ys.map V.str)) := g6 D _ hys nDp
      refine ⟨_, v, ch, rfl, rfl, (by decide +kernel), hch, ys.map V.str, h6, small1000 (by rw [List.length_map]; omega), ?_⟩
      refine ⟨fun b o q hb' => ?_, P6.off nDp nDc, ys ++ [⟨#[ch]⟩], ?_, by rw [List.length_append, hyl]; rfl, fun y hy => ?_⟩
      · rw [upd_ne (ne_of_none (g1 b o q hb') hD)]
        exact g6 b o (g5 b o q hb') hb'
      · rw [upd_same, List.map_append]
        rfl
      · rcases List.mem_append.mp hy with hy | hy
        · exact hb y hy
        · rw [List.mem_singleton.mp hy]
          exact ⟨Sgn.one hm, rfl⟩
    · rintro H' ⟨g5, P5, ys, hys, hyl, hb⟩
      have j := join_ok ys hb
      refine ⟨_, D, ys, rfl, rfl, .inl (SqL.of hys), ?_, ?_⟩
      · have e0 : ("" : Str).length = 0 := by decide +kernel
        rw [sum_ones hb, e0]
        omega
      · exact k _ _ (by rw [j.2]; omega) j.1 g5 P5
def nName : List Str := ["_law_pool_here", "_law_base_here", "_law_k", "_law_text", "_law_at"]
theorem scName : FnScope nName ["_law_pool_here", "_law_base_here", "_law_k"] (defScope sName) := ⟨rfl, rfl, rfl, by decide +kernel, rfl, by decide +kernel, by decide +kernel⟩
theorem small16 {n : Nat} (h : n ≤ 16) : n ≤ sizeLine := Nat.le_trans h (by decide)
theorem ok_name {f fT : Addr} {fd fdT : FuncData} (F : Fun K "_law_name" "_law_name" sName f fd) (B : Blt mg) (T : Fn K mg "_law_take" sTake ["_law_pool_here", "_law_size"] fT fdT) : FnOk P w K mg base CX0 2 f fd ["_law_pool_here", "_law_base_here", "_law_k"] spName := by
  have GT : FnOk P w K mg base CX0 1 fT fdT ["_law_pool_here", "_law_size"] spTake := ok_take T.F B
  refine F.ok scName (fun vs H Q E h => ?_) (fun cdv A outer s H vs Q E hr h => ?_)
  · obtain ⟨p, c, b, k, rfl, _⟩ := h
    rfl
  · obtain ⟨p, c, b, kk, rfl, hP, hb, hsb, hk, k⟩ := h
    refine ⟨_, pss_cons (ps_set (i := 3) scName.nd rfl (Or.inl rfl) (pe_slice sl_str (pv 1) po_none (po_some (pe_call GT hr rfl T.g T.F.kp T.b .nil pass0 (pa_cons (pv 0) (pa_cons (pe_op op_add (pe_callB call_len_str (by rfl) B.len PySem.boot_len (pa_cons (pv 1) pa_nil)) pe_int) pa_nil))))))
      (pss_cons (ps_set (i := 4) scName.nd rfl (Or.inl rfl) (pe_call GT hr rfl T.g T.F.kp T.b .nil pass0 (pa_cons (pv 0) (pa_cons (pe_op op_add (pe_callB call_len_str (by rfl) B.len PySem.boot_len (pa_cons (pv 3) pa_nil)) pe_int) pa_nil))))
      (pss_one (ps_ret (pe_op op_add_str (pe_op op_add_str (pe_slice sl_str (pv 3) po_none (po_some (pv 4))) (pe_ix ix_str pe_str (pv 2) (fun _ _ => rfl))) (pe_slice sl_str (pv 3) (po_some (pv 4)) po_none))))), ?_⟩
    have n20 : ∀ n : Nat, n ≤ 11 → ((n : Int) + 1).natAbs < 2 ^ 200 := fun n h => Nat.lt_of_le_of_lt (m := 12) (by omega) (by decide)
    refine ⟨_, rfl, _, rfl, _, rfl, b, rfl, small16 (by omega), _, 1, rfl, rfl, p, c, _, rfl, hP, by omega, n20 _ hb, fun v H1 v0 v1 g1 P1 => ⟨v, rfl, b, rfl, small16 (by omega), ?_⟩⟩
    generalize hz : cutS b none (some v) = z
    have hzl : z.length ≤ 11 := by rw [← hz]; exact Nat.le_trans (cutS_length _ _ _) hb
    have hzs : Sgn z := by rw [← hz]; exact hsb.cut _ _
    refine ⟨_, rfl, _, rfl, z, rfl, small16 (by omega), _, 1, rfl, rfl, p, c, _, rfl, P1, by omega, n20 _ hzl, fun u H2 u0 u1 g2 P2 => ?_⟩
    obtain ⟨sg, hsg⟩ : ∃ sg, ("afkdibglejch" : Str).cps.toList[kk]? = some sg := ⟨_, List.getElem?_eq_getElem (by have : ("afkdibglejch" : Str).cps.toList.length = 12 := by decide +kernel
                                                                                                                  omega)⟩
    have l1 := cutS_length z none (some u)
    have l2 := cutS_length z (some u) none
    have lt : (cutS z none (some u)).length + (cutS z (some u) none).length ≤ z.length := by
      obtain ⟨j, rfl⟩ : ∃ j : Nat, u = (j : Int) := ⟨u.toNat, by omega⟩
      have e1 : ∀ lo hi, (cutS z lo hi).length = min (HT.sIx z.length z.length hi - HT.sIx z.length 0 lo) (z.length - HT.sIx z.length 0 lo) := fun lo hi => by
        show (((z.cps.toList.drop (HT.sIx z.length 0 lo)).take (HT.sIx z.length z.length hi - HT.sIx z.length 0 lo)).toArray).size = _
        rw [List.size_toArray, List.length_take, List.length_drop, Array.length_toList]
        rfl
      simp only [e1, HT.sIx_none, HT.sIx_nat]
      omega
    have o1 : (⟨#[sg]⟩ : Str).length = 1 := rfl
    refine ⟨_, rfl, _, rfl, u, rfl, z, rfl, small16 (by omega), _, rfl, _, kk, sg, rfl, rfl, (by decide +kernel), at_c (j := kk) hsg rfl, _, _, rfl, rfl, small16 (by omega), ?_⟩
    refine ⟨_, rfl, _, rfl, u, rfl, z, rfl, small16 (by omega), _, _, rfl, rfl, small16 (by rw [len_app]; omega), ?_⟩
    exact k _ _ ⟨by rw [len_app, len_app]; omega, sg, _, _, hsg, rfl, hzs.cut _ _, hzs.cut _ _⟩ (g1.trans g2) P2
end
end Yd
namespace Yd
open PySem L2
/-! ### a def that begins with super().__init__(text): how the errors of the program are made -/
/-- such a def as it stands behind the top: D its class, cc the cell that holds D -/
structure SupFn (P : Program) (K : PySem.W.Frag) (mg : Str → Option Value) (x qual : Str) (st : Stmt) (f D cc : Addr) (fd : FuncData) : Prop where
  fn : ∃ (oc : Value) (od : Option Addr) (kV doc pm : Value) (an : Option Addr) (cda : Addr) (ct : Value) (osl : Array (Option Value)) (ccl : Value) (cdd : Option Addr) (vs : Array Value) (ccs : Array (Option Value)) (file : Str) (tf : Tok),
    fd = PySem.W.fnX x qual (defArgs st) (defBody st) (defScope st) [("__class__", cc)] .none kV doc pm an (.ref cda) ct ∧ K.lookup f = some ⟨oc, od, .func fd, osl⟩ ∧ PySem.W.codeIn K (.ref cda) qual = true ∧
    K.lookup cda = some ⟨ccl, cdd, .fields vs, ccs⟩ ∧ vs[2]? = some (.str file tf) ∧ ((P.main.file : Str) == file) = true
  cell : ∃ (cl : Value) (cld : Option Addr) (csl : Array (Option Value)), K.lookup cc = some ⟨cl, cld, .cell (some (.ref D)), csl⟩
  cd : ∃ cdD, PySem.W.clsIn K D = some cdD
  sup : mg "super" = none
  top : (P.main.scope.names.lookup ("super" : Str)).isSome = false
  any : PySem.W.nsIn K PySem.cStatics "thirdparty.any" = some none
/-- the class at C of the object, seen from a def of the class at D -/
structure SupC (K : PySem.W.Frag) (C D : Addr) : Prop where
  ox : OexC K C
  over : PySem.W.ks_superIn K C D "__init__" = some (some (.builtin "ValueError.__init__"))
  sub : PySem.W.subIn K (.ref C) (.type "ValueError") = some true
  mro : PySem.W.mroIn K C (.ref D) = some true
section
open PySem.W PySem.Calls
variable {X : Cx} {pins : List (Addr × Obj)} {σ : St} {H : Hp} {s : Shared} {a C D f cc cda : Addr} {E : Value → Shared → Prop}
theorem inst_exo {hh : Heap} {t1 : Addr} (h : hh.get? a = some (PySem.HandSPX.excO C t1)) : InstAt hh a (PySem.HandSPX.excO C t1) C none := ⟨h, rfl, rfl, trivial⟩
/-- super(), ahead of its attribute -/
theorem sup_base {qual : Str} {scope : Scope} {L : Addr} {fd : FuncData} {of oc : Obj} {ar : Arg} {vs : Array Value} {file : Str} {tf : Tok} {body : List Stmt} {p0 p1 : Pos} {attr : Str} {whole : Sem Value} {ox : Obj} {odx : Option Obj} {ocl : Obj}
    (I : Inv X pins σ H s) (hE : X.env = envX qual scope L f (.ref cda) [("__class__", cc)]) (hks : scope.names.lookup ("super" : Str) = some .globalImplicit) (hkc : scope.names.lookup ("__class__" : Str) = some .free)
    (hat : (attr == ("__class__" : Str)) = false) (hf : X.K.lookup f = some of) (hfd : of.data = .func fd) (hp : (fd.params.posonlyargs ++ fd.params.args).head? = some ar) (hself : X.N[0]? = some ar.arg) (hloc : scope.names.lookup ar.arg = some .local)
    (hv : σ[0]? = some (some (.ref a))) (hco : X.K.lookup cda = some oc) (hoc : oc.data = .fields vs) (hvs : vs[2]? = some (.str file tf)) (hfile : ((X.prog.main.file : Str) == file) = true)
    (htop : (X.prog.main.scope.names.lookup ("super" : Str)).isSome = false) (hmg : X.mg "super" = none) (hcell : X.K.lookup cc = some ocl) (hcd : ocl.data = .cell (some (.ref D))) (hD : ∃ cdD, clsIn X.K D = some cdD)
    (J : InstAt s.heap a ox C odx) (hm : mroIn X.K C (.ref D) = some true) :
    PySem.wpAt (model X.prog X.w) X.A (.func body X.env) (attributeBase (.Call (.Name "super" p0) [] [] p1) attr X.env whole)
      (fun v s' => ∃ so, v = .ref so ∧ s'.heap.get? so = some (ks_superObj D a C) ∧ (∀ b o, s.heap.get? b = some o → s'.heap.get? b = some o) ∧ Inv X pins σ H s') E s := by
  have KI := I.kIn
  have hkind : scope.kind = .function := by have z := I.ok.kind; rw [hE] at z; exact z
  have hglob : X.env.globals = mainGlobals := I.ok.glob
  obtain ⟨mb, hb1, hb2⟩ := I.mod.blt
  have hbl : s.heap.Ns builtinsNs mb := hb1.keeps I.bk
  have hgl : s.heap.Ns mainGlobals X.mg := I.mod.glob.keeps I.bk
  obtain ⟨m, hns, hlk⟩ := id I.loc
  have vis : Vis X.env.scope ar.arg := by rw [hE]; exact .inl hloc
  obtain ⟨u, hru, hlook⟩ := hlk 0 ar.arg (.ref a) hself hv vis
  have hu : u = Value.ref a := hru
  subst hu
  have hma : m ar.arg = some (.ref a) := by
    rcases hlook with ⟨_, z⟩ | ⟨k, _⟩
    · exact z
    · rw [hE] at k
      have k' : scope.names.lookup ar.arg = some .cell ∨ scope.names.lookup ar.arg = some .free := k
      rw [hloc] at k'
      rcases k' with k' | k' <;> cases k'
  obtain ⟨cdD, hcdD⟩ := hD
  obtain ⟨oD, hD1, hD2⟩ : ∃ oD, s.heap.get? D = some oD ∧ oD.data = .cls cdD := by
    unfold clsIn at hcdD
    split at hcdD
    · rename_i q1 q2 q3 q4 hq
      cases hcdD
      exact ⟨_, KI _ _ hq, rfl⟩
    · cases hcdD
  have hlocals : X.env.locals = L := by rw [hE]
  rw [hlocals] at hns
  have hK : ∀ {b o}, X.K.lookup b = some o → s.heap.get? b = some o := fun {b o} e => KI b o e
  have keep : ∀ h', (∀ b o, s.heap.get? b = some o → h'.get? b = some o) → Inv X pins σ H { s with heap := h' } := fun h' k => I.kept (t' := s.toks) k
  rw [hE]
  obtain ⟨hh, g, d, t, os⟩ := s
  refine ks_wpAt_super_base (env := envX qual scope L f (.ref cda) [("__class__", cc)]) hks hkc hat rfl (hK hf) hfd hp rfl (hK hco) hoc hvs hfile htop ?_
  refine ks_loadName_global hkind hks (loadGlobal_builtin (env := envX qual scope L f (.ref cda) [("__class__", cc)]) hgl hmg hbl ((hb2 _ (by decide +kernel)).trans (by decide +kernel)) ⟨rfl, ?_⟩)
  refine wpAny_loadName_free hkind hkc rfl ⟨_, hK hcell, hcd⟩ ?_
  refine wpAny_loadName_local hkind hloc hns hma ?_
  refine ks_wpAny_isType_cls hD1 hD2 ⟨rfl, ?_⟩
  refine ks_wpAny_call_super hD1 hD2 J.at_ J.cls (fun c e => ?_) (looks_mroIn KI hm) fun h' e k => ⟨_, rfl, e, k, keep h' k⟩
  have z := J.no
  unfold notCls at z
  rw [e] at z
  exact Bool.noConfusion z
end
end Yd
namespace Yd
open PySem L2
section
open PySem.W PySem.Calls
variable {X : Cx} {pins : List (Addr × Obj)} {σ : St} {H : Hp} {s : Shared} {a C D f cc cda u : Addr} {E : Value → Shared → Prop}
/-- a record of ours is pinned -/
theorem pin_new (I : Inv X pins σ H s) {o : Obj} (hu : s.heap.get? u = some o) (hn : H u = none) (hL : u ≠ X.env.locals) (hf : u ∉ X.fs) (hd : ∀ v, o.data ≠ .cell v) : Inv X ((u, o) :: pins) σ H s :=
  I.pins_of fun p hp => by
    rcases List.mem_cons.mp hp with rfl | hp
    · exact ⟨hu, hn, hL, hf, hd⟩
    · exact I.pin p (List.mem_append_right _ hp)
theorem pin_off {o : Obj} (I : Inv X ((u, o) :: pins) σ H s) : Inv X pins σ H s := I.pins_of fun p hp => I.pin p (List.mem_append_right _ (List.mem_cons_of_mem _ hp))
theorem mw_nocell {i : String} {x : Addr} : ∀ v, (kxs_mw i x).data ≠ .cell v := fun _ z => by cases z
/-- the bound ValueError.__init__ runs -/
theorem mw_run {us : List Value} {Q : Value → Shared → Prop} (T : OexC X.K C) (I : Inv X pins σ H s) (e : H a = some (exo a C none)) (hu : s.heap.get? u = some (kxs_mw "ValueError.__init__" a)) (hl : us.length ≤ sizeLine)
    (h : ∀ s', Inv X pins σ H s' → Q .none s') : wpAny (model X.prog X.w) X.A (call (.ref u) us) Q E s := by
  obtain ⟨nm, q, N, bs, bm, sn, sub, ab, col, dd, k0, k1, k2, k3, k5, hC, hbm⟩ := T.cls
  obtain ⟨t1, ho⟩ := exo_at I.hok e
  obtain ⟨hp, g, d, t, os⟩ := s
  have hTy : ∀ n : String, n = "method-wrapper" → (Value.type n == Value.type "method" || Value.type n == Value.type "builtin_function_or_method" || Value.type n == Value.type "method-wrapper") = true := fun n hn => by subst hn; decide
  refine wpAny_call (codeAny_of_tree (?_ : wpAny _ X.A.in1 (callAny (.ref u) ⟨us, []⟩) _ _ _))
  simp only [callAny]
  refine wpAny_bind (wpAny_load hu ?_)
  simp only [kxs_mw, hTy "method-wrapper" rfl, if_true]
  refine KFB.if_so (by decide) (wpAny_bind (check_bound_init F.excBase_ValueError.toExcCallFacts (I.kIn _ _ hC) ho rfl (wpAny_bind (wpAny_pure (wpAny_pure ?_)))))
  refine ⟨plainId_quiet F.excBase_ValueError.init.plain _, codeAny_builtin F.excBase_ValueError.initEntry ?_⟩
  refine exc_init_tree (cls := .ref C) (t0 := t1) (dv := none) (c2 := .none) (c3 := .none) (b4 := .bool false) ho hl fun h' k hx _ => ?_
  have same : upd H a (exo a C none) = H := funext fun b => by
    by_cases hb : b = a
    · rw [hb, upd_same, e]
    · exact upd_ne hb
  have J := I.write (t' := t) (x := a) (e := a) (o := exo a C none) (by rw [e]; exact True.intro) (.inl rfl) k ⟨_, hx⟩ (exo_ok hx)
  rw [same] at J
  exact h _ J
end
end Yd
namespace Yd
open PySem L2
section
open PySem.W PySem.Calls
variable {X : Cx} {pins : List (Addr × Obj)} {σ : St} {H : Hp} {s : Shared} {a C D f cc cda u : Addr} {E : Value → Shared → Prop}
/-- super().__init__(e), the whole statement, where the def's own code runs -/
theorem sup_stmt {qual : Str} {scope : Scope} {L : Addr} {fd : FuncData} {of oc : Obj} {ar : Arg} {vs : Array Value} {file : Str} {tf : Tok} {body : List Stmt} {p0 p1 p2 p3 p4 : Pos} {ocl : Obj} {e : Expr} {te : TE} {Q : Hp → Prop} {pl : Sem Bool}
    (I : Inv X pins σ H s) (hE : X.env = envX qual scope L f (.ref cda) [("__class__", cc)]) (hks : scope.names.lookup ("super" : Str) = some .globalImplicit) (hkc : scope.names.lookup ("__class__" : Str) = some .free)
    (hf : X.K.lookup f = some of) (hfd : of.data = .func fd) (hp : (fd.params.posonlyargs ++ fd.params.args).head? = some ar) (hself : X.N[0]? = some ar.arg) (hloc : scope.names.lookup ar.arg = some .local)
    (hv : σ[0]? = some (some (.ref a))) (hco : X.K.lookup cda = some oc) (hoc : oc.data = .fields vs) (hvs : vs[2]? = some (.str file tf)) (hfile : ((X.prog.main.file : Str) == file) = true)
    (htop : (X.prog.main.scope.names.lookup ("super" : Str)).isSome = false) (hmg : X.mg "super" = none) (hcell : X.K.lookup cc = some ocl) (hcd : ocl.data = .cell (some (.ref D))) (hD : ∃ cdD, clsIn X.K D = some cdD)
    (hany : nsIn X.K cStatics "thirdparty.any" = some none) (S : SupC X.K C D) (he : PE X e te) (ha : H a = some (exo a C none)) (hq : te σ H fun _ H1 => H1 a = some (exo a C none) ∧ Q H1)
    (hi : interactive X.env = false := by rfl) (hsw : swapsWith (.Call (.Attribute (.Call (.Name "super" p0) [] [] p1) "__init__" p2) [e] [] p3) none p4.line X.env = pure false := by rfl)
    (hst : starEach [e] X.env = (false, eval e X.env) :: starEach [] X.env := by rfl)
    (hc : eval (.Call (.Attribute (.Call (.Name "super" p0) [] [] p1) "__init__" p2) [e] [] p3) X.env = (do
      let ov ← attributeBase (.Call (.Name "super" p0) [] [] p1) "__init__" X.env (eval (.Call (.Name "super" p0) [] [] p1) X.env)
      standAt p2.atName
      let (f, first) ← holding [ov] (getMethod ov "__init__" pl)
      callWith p3 f first (backTo p3 (starEach [e] X.env)) []) := by rfl) :
    PySem.wpAt (model X.prog X.w) X.A (.func body X.env) (exec (.Expr (.Call (.Attribute (.Call (.Name "super" p0) [] [] p1) "__init__" p2) [e] [] p3) p4) X.env)
      (fun fl s' => fl = .next ∧ ∃ H', Inv X pins σ H' s' ∧ Q H') X.xe s := by
  obtain ⟨t1, ho⟩ := exo_at I.hok ha
  refine ks_wpAt_Expr_any ?_ hi hsw
  refine ks_wpAt_MethodCall ?_ hc
  · refine ks_wpAt_mono (sup_base I hE hks hkc (by decide) hf hfd hp hself hloc hv hco hoc hvs hfile htop hmg hcell hcd hD (inst_exo ho) S.mro) (fun v s1 hh => ?_) fun _ _ z => z
    obtain ⟨so, rfl, hso, k1, I1⟩ := hh
    obtain ⟨t2, ho1⟩ := exo_at I1.hok ha
    have KI := I1.kIn
    have hcls : ∃ cd, clsIn X.K C = some cd ∧ alongIn X.K "__init__" ((cd.mro.dropWhile (· != .ref D)).drop 1) = some (some (.builtin "ValueError.__init__")) := by
      have z := S.over
      unfold ks_superIn at z
      cases q : clsIn X.K C with
      | none => rw [q] at z; cases z
      | some cd => rw [q] at z; exact ⟨cd, rfl, z⟩
    obtain ⟨cd, hcdC, hal⟩ := hcls
    have hI : Looks (model X.prog X.w) s1.heap (isInstance (.ref a) (.type "ValueError")) true := (inst_exo ho1).type.andThen (looks_subIn KI S.sub)
    have hmro : Looks (model X.prog X.w) s1.heap (mroOf (.ref C)) cd.mro := fun A' Q' E' s' k q => wpAny_bind ((looks_clsIn KI hcdC) A' _ E' s' k (wpAny_pure q))
    have hne : a ≠ C := ks_ne KI (inst_exo ho1) hcdC
    obtain ⟨hp1, g, d, t, os⟩ := s1
    refine kxs_getMethod kxs_ValueError hso (looks_opaque KI hany) hmro rfl KI hal hI hne (by decide) ?_
    -- the bound method is a new record
    have hnew : H hp1.objs.size = none := I1.hok.fresh (Nat.le_refl _)
    have I2 : Inv X pins σ H ⟨hp1.push (kxs_mw "ValueError.__init__" a), g, d, t + 1, os⟩ := I1.kept (t' := t + 1) fun b o q => Heap.get?_push_of_some _ q
    have hL : hp1.objs.size ≠ X.env.locals := (Nat.ne_of_lt I1.lt).symm
    have I3 := pin_new (o := kxs_mw "ValueError.__init__" a) I2 (Heap.get?_push_at rfl rfl) hnew hL (I1.nofs (Nat.le_refl _)) mw_nocell
    have hplain : ((false, eval e X.env) :: backTo p3 (starEach [] X.env)).any (·.1) = false := by rfl
    rw [hst]
    refine kxs_callWith (i := "ValueError.__init__") (x := a) hplain (evalArgs_plain ?_)
    refine spliced_cons (thn (he.run _ _ σ H _ I3 hq) fun v s2 ⟨x, H2, I4, _, ha2, q2⟩ => ?_)
    refine spliced_nil ⟨(I4.pin _ (List.mem_append_right _ (List.mem_cons_self ..))).1, ?_⟩
    exact mw_run S.ox I4 ha2 (I4.pin _ (List.mem_append_right _ (List.mem_cons_self ..))).1 (by show 1 ≤ sizeLine; decide) fun s' J => ⟨rfl, H2, pin_off J, q2⟩
/-- the names of such a def: the parameters, then __class__ -/
structure SupScope (N ps : List Str) (sc : Scope) : Prop where
  ns : NdefX.NScope N ps ["__class__"] sc
  sup : sc.names.lookup ("super" : Str) = some .globalImplicit
/-- THE RULE for a def that begins so: its text, and what is behind it -/
theorem fn_sup {P : Program} {w : World} {K : Frag} {mg : Str → Option Value} {base : Heap} {CX : CXT} {x qual : Str} {st : Stmt} {fd : FuncData} {N ps : List Str} {k : Nat} {sp : Sp} {ar : Arg} {e : Expr} {rest : List Stmt} {p0 p1 p2 p3 p4 : Pos} {pl : Sem Bool}
    (F : SupFn P K mg x qual st f D cc fd) (S : SupScope N ps (defScope st)) (hp : ((defArgs st).posonlyargs ++ (defArgs st).args).head? = some ar) (hself : N[0]? = some ar.arg) (hloc : (defScope st).names.lookup ar.arg = some .local)
    (hb : defBody st = .Expr (.Call (.Attribute (.Call (.Name "super" p0) [] [] p1) "__init__" p2) [e] [] p3) p4 :: rest) (len : ∀ vs H Q E, sp vs H Q E → vs.length = ps.length)
    (hsw : ∀ env : Env, env.scope = defScope st → swapsWith (.Call (.Attribute (.Call (.Name "super" p0) [] [] p1) "__init__" p2) [e] [] p3) none p4.line env = pure false)
    (hst : ∀ env, starEach [e] env = (false, eval e env) :: starEach [] env)
    (hc : ∀ env, eval (.Call (.Attribute (.Call (.Name "super" p0) [] [] p1) "__init__" p2) [e] [] p3) env = (do
      let ov ← attributeBase (.Call (.Name "super" p0) [] [] p1) "__init__" env (eval (.Call (.Name "super" p0) [] [] p1) env)
      standAt p2.atName
      let (f, first) ← holding [ov] (getMethod ov "__init__" pl)
      callWith p3 f first (backTo p3 (starEach [e] env)) []))
    (hbody : ∀ (Fn : NdefX.NF) (A : Around) (outer : List Env) (s : Shared) (H : Hp) (vs : List V) (Q : VK) (E : XK), Fn.scope = defScope st → Fn.cl = [(("__class__" : Str), cc)] → Room k (A.deeper (NdefX.envF Fn f s.heap.objs.size)) → sp vs H Q E →
      ∃ te t a C, PE (NdefX.ncx CX P w K mg base N Fn f A outer s H E) e te ∧ PSs (NdefX.ncx CX P w K mg base N Fn f A outer s H E) rest t ∧ vs[0]? = some (.ref a) ∧ SupC K C D ∧ H a = some (exo a C none) ∧
        te (NdefX.startF N vs [some (.ref D)]) H fun _ H1 => H1 a = some (exo a C none) ∧ t { nx := fun _ H' => Q .non H', rt := Q } (NdefX.startF N vs [some (.ref D)]) H1) :
    FnOk P w K mg base CX (k + 1) f fd ps sp := by
  obtain ⟨oc, od, kV, doc, pm, an, cda, ct, osl, ccl, cdd, vsC, ccs, file, tf, rfl, lk, hcd, lkC, hvs, hfile⟩ := F.fn
  obtain ⟨cl, cld, csl, lkc⟩ := F.cell
  refine ⟨len, fun A outer s H args us vs Q E hr e0 hb' r hsp => ?_⟩
  have hl := len _ _ _ _ hsp
  have inK : ∀ {b o}, K.lookup b = some o → s.heap.get? b = some o ∧ H b = none := fun {b o} z => e0.bs b o (e0.mod.kin b o z)
  have KX : K.In s.heap := fun b o z => (inK z).1
  have lim : s.heap.NoLimit := e0.mod.nolimit.keeps fun b o z => (e0.bs b o z).1
  refine ks_codeAny_call_defAt (fd := fnX x qual (defArgs st) (defBody st) (defScope st) [("__class__", cc)] .none kV doc pm an (.ref cda) ct) (body := defBody st) (binds := ps.zip us) hr.depth (inK lk).1 rfl lim (codeRec_of KX hcd) rfl hb' S.ns.nocell
    (fun y hy => S.ns.par _ (List.of_mem_zip hy).1) (fun h₁ hns kp => ?_) S.ns.co S.ns.gen S.ns.kind
  let Fn : NdefX.NF := ⟨x, qual, defArgs st, defBody st, defScope st, [(("__class__" : Str), cc)], cda⟩
  have C1 : NdefX.CellsAt Fn.cl ["__class__"] [some (.ref D)] s.heap H := by
    have one : ∀ y c, List.lookup y [(("__class__" : Str), cc)] = some c → y = "__class__" ∧ c = cc := fun y c z => by
      by_cases hy : y = "__class__"
      · subst hy
        refine ⟨rfl, ?_⟩
        simp [List.lookup] at z
        exact z.symm
      · have q : (y == ("__class__" : Str)) = false := by simpa using hy
        simp [List.lookup, q] at z
    refine ⟨rfl, fun y c z => ?_, fun y z c h1 h2 => (one y c h1).1.trans (one z c h2).1.symm, fun i y hy => ?_⟩
    · obtain ⟨_, rfl⟩ := one y c z
      exact ⟨(inK lkc).2, _, _, (inK lkc).1, rfl⟩
    · match i, hy with
      | 0, hy =>
        have ey : ("__class__" : Str) = y := Option.some.inj hy
        subst ey
        refine ⟨cc, by show List.lookup _ [(("__class__" : Str), cc)] = _; simp [List.lookup], fun v hv => ?_⟩
        have ev : V.ref D = v := Option.some.inj (Option.some.inj hv)
        subst ev
        exact ⟨_, rfl, _, (inK lkc).1, rfl⟩
      | i + 1, hy => simp at hy
  have I : Inv (NdefX.ncx CX P w K mg base N Fn f A outer s H E) [] (NdefX.startF N vs [some (.ref D)]) H { s with heap := h₁, toks := s.toks + (ps.zip us).length } := NdefX.inv_startN S.ns hr.hd e0 hl r C1 hns kp
  obtain ⟨te, t, a, C, pe, pss, hv0, hS, ha, hq⟩ := hbody Fn A outer s H vs Q E rfl rfl (hr.deeper _) hsp
  have hσ : (NdefX.startF N vs [some (.ref D)])[0]? = some (some (.ref a)) := by
    unfold NdefX.startF
    have h0 : 0 < vs.length := (List.getElem?_eq_some_iff.mp hv0).1
    rw [List.getElem?_append_left (by rw [List.length_map]; exact h0), List.getElem?_map, hv0]
    rfl
  rw [hb]
  refine ks_wpAt_execs_cons (ks_wpAt_mono (sup_stmt (X := NdefX.ncx CX P w K mg base N Fn f A outer s H E) (qual := qual) (scope := defScope st) (L := s.heap.objs.size) I rfl S.sup (S.ns.frk _ (List.mem_singleton.mpr rfl)) lk rfl hp hself hloc hσ lkC rfl hvs hfile F.top F.sup lkc rfl F.cd F.any hS pe ha hq
    (by unfold interactive; rw [show (NdefX.ncx CX P w K mg base N Fn f A outer s H E).env.scope.kind = .function from S.ns.kind]; rfl) (hsw _ rfl) (hst _) (hc _)) (fun fl s' hh => ?_) fun _ _ z => z)
  obtain ⟨rfl, H1, I1, q1⟩ := hh
  refine wpAt_of_wpAny (wpAny_mono (pss.run [] s' _ H1 _ I1 q1) (fun fl s2 hs => ?_) fun _ _ z => z)
  have fin : ∀ {σ' : L2.St} {H' : Hp} {v : V} {u : Value}, Inv (NdefX.ncx CX P w K mg base N Fn f A outer s H E) [] σ' H' s2 → RelV v u → Q v H' → CE outer P w H s Q u s2 :=
    fun {σ' H' v u} J rv q => ⟨v, H', J.os, J.bare, J.base, J.hok, rv, q⟩
  cases fl with
  | ret u =>
    obtain ⟨v, σ', H', J, rv, q⟩ := hs
    exact fin J rv q
  | next =>
    obtain ⟨σ', H', J, q⟩ := hs
    exact fin (v := V.non) (u := Value.none) J rfl q
  | brk =>
    obtain ⟨_, _, _, q⟩ := hs
    exact q.elim
  | cont =>
    obtain ⟨_, _, _, q⟩ := hs
    exact q.elim
end
end Yd
namespace Yd
open PySem L2
/-! ### the errors: a text, then the fields -/
/-- a part of a text that is short -/
def Short (σ : St) (H : Hp) (t : TE) : Prop := ∃ y : Str, y.length ≤ 100 ∧ ∀ Q : VK, Q (.str y) H → t σ H Q
theorem short_c {σ : St} {H : Hp} {x : Str} (h : x.length ≤ 100 := by decide +kernel) : Short σ H (tC (.str x)) := ⟨x, h, fun _ q => q⟩
theorem short_v {σ : St} {H : Hp} {i : Nat} {x : Str} (e : σ[i]? = some (some (.str x))) (h : x.length ≤ 100) : Short σ H (tFmt (tVar i)) :=
  ⟨x, h, fun _ q => ⟨_, e, .inl ⟨x, rfl, Nat.le_trans h (by decide), q⟩⟩⟩
theorem js_short {σ : St} {H : Hp} {Q : Str → Hp → Prop} (hq : ∀ out, Q out H) : ∀ (ts : List TE) (acc : Str), (∀ t ∈ ts, Short σ H t) → acc.length + 100 * ts.length ≤ 10000 → tJs ts acc σ H Q
  | [], acc, _, _ => hq acc
  | t :: ts, acc, h, hl => by
    obtain ⟨y, hy, ht⟩ := h t (List.mem_cons_self ..)
    rw [List.length_cons] at hl
    have e : (acc ++ y).length = acc.length + y.length := len_app acc y
    refine ht _ ⟨y, rfl, ?_, js_short hq ts (acc ++ y) (fun u hu => h u (List.mem_cons_of_mem _ hu)) (by omega)⟩
    exact Nat.le_trans (show (acc ++ y).length ≤ 10000 by omega) (by decide)
/-- what an error's __init__ promises: fs, the fields, the last one stored first -/
def spErr (C : Addr) (n : Nat) (ok : List V → Prop) (fs : List V → List (Str × V)) : Sp := fun vs H Q _ => ∃ (a : Addr) (us : List V), vs = .ref a :: us ∧ us.length = n ∧ ok us ∧ H a = some (exo a C none) ∧
  ∀ d H', H d = none → d ≠ a → H' a = some (exo a C (some d)) → H' d = some (exd d (fs us)) → (∀ b, b ≠ a → b ≠ d → H' b = H b) → Q .non H'
def isTxt (v : V) : Prop := ∃ x : Str, v = .str x ∧ x.length ≤ 100
end Yd
namespace Yd
open PySem L2
section
variable {P : Program} {w : World} {K : PySem.W.Frag} {mg : Str → Option Value} {base : Heap} {CX : CXT}
theorem scRepeatedInit : SupScope ["self", "name", "__class__"] ["self", "name"] (defScope sRepeatedInit) := ⟨NdefX.nscope_by (by decide +kernel), rfl⟩
def fsRepeated : List V → List (Str × V)
  | [v0] => [("name", v0)]
  | _ => []
def okRepeated : List V → Prop
  | [v0] => isTxt v0
  | _ => False
theorem ok_RepeatedInit {f D cc : Addr} {fd : FuncData} (F : SupFn P K mg "__init__" "Repeated.__init__" sRepeatedInit f D cc fd) (S : SupC K D D) (n0 : PySem.W.findIn K (.ref D) "name" = some none) : FnOk P w K mg base CX 1 f fd ["self", "name"] (spErr D 1 okRepeated fsRepeated) := by
  refine fn_sup F scRepeatedInit rfl rfl rfl rfl (fun vs H Q E h => ?_) (fun _ _ => rfl) (fun _ => rfl) (fun _ => rfl) (fun Fn A outer s H vs Q E hsc hcl hr h => ?_)
  · obtain ⟨a, us, rfl, hl, _⟩ := h
    rw [List.length_cons, hl]
    rfl
  · obtain ⟨a, us, rfl, hl, ok, ha, k⟩ := h
    obtain ⟨nm, ql, pr, bd, scp, cl, cdx⟩ := Fn
    simp only at hsc hcl
    subst hsc hcl
    match us, hl, ok, k with
    | [v0], _, ⟨x0, e0, l0⟩, k =>
      subst e0
      refine ⟨_, _, a, D, pe_joined (PJ.cons pe_str (PJ.cons (pe_fmt (pv 1)) (PJ.cons pe_str PJ.nil))), (pss_one (ps_ost (pv 0) (pv 1))), rfl, S, ha, ?_⟩
      refine js_short (fun out => ?_) _ _ (fun t ht => ?_) (by decide)
      rotate_left
      · simp only [List.mem_cons, List.not_mem_nil, or_false] at ht
        rcases ht with rfl | rfl | rfl
        · exact short_c
        · exact short_v rfl l0
        · exact short_c
      refine ⟨ha, ?_⟩
      refine ⟨_, rfl, _, rfl, a, D, rfl, S.ox, n0, .inl ⟨ha, fun dx hd hda => ?_⟩⟩
      refine k dx _ hd hda upd_same (by rw [upd_ne hda]; exact upd_same) fun b hb1 hb2 => ?_
      rw [upd_ne hb1, upd_ne hb2]
theorem scUnknownInit : SupScope ["self", "name", "__class__"] ["self", "name"] (defScope sUnknownInit) := ⟨NdefX.nscope_by (by decide +kernel), rfl⟩
def fsUnknown : List V → List (Str × V)
  | [v0] => [("name", v0)]
  | _ => []
def okUnknown : List V → Prop
  | [v0] => isTxt v0
  | _ => False
theorem ok_UnknownInit {f D cc : Addr} {fd : FuncData} (F : SupFn P K mg "__init__" "Unknown.__init__" sUnknownInit f D cc fd) (S : SupC K D D) (n0 : PySem.W.findIn K (.ref D) "name" = some none) : FnOk P w K mg base CX 1 f fd ["self", "name"] (spErr D 1 okUnknown fsUnknown) := by
  refine fn_sup F scUnknownInit rfl rfl rfl rfl (fun vs H Q E h => ?_) (fun _ _ => rfl) (fun _ => rfl) (fun _ => rfl) (fun Fn A outer s H vs Q E hsc hcl hr h => ?_)
  · obtain ⟨a, us, rfl, hl, _⟩ := h
    rw [List.length_cons, hl]
    rfl
  · obtain ⟨a, us, rfl, hl, ok, ha, k⟩ := h
    obtain ⟨nm, ql, pr, bd, scp, cl, cdx⟩ := Fn
    simp only at hsc hcl
    subst hsc hcl
    match us, hl, ok, k with
    | [v0], _, ⟨x0, e0, l0⟩, k =>
      subst e0
      refine ⟨_, _, a, D, pe_joined (PJ.cons pe_str (PJ.cons (pe_fmt (pv 1)) (PJ.cons pe_str PJ.nil))), (pss_one (ps_ost (pv 0) (pv 1))), rfl, S, ha, ?_⟩
      refine js_short (fun out => ?_) _ _ (fun t ht => ?_) (by decide)
      rotate_left
      · simp only [List.mem_cons, List.not_mem_nil, or_false] at ht
        rcases ht with rfl | rfl | rfl
        · exact short_c
        · exact short_v rfl l0
        · exact short_c
      refine ⟨ha, ?_⟩
      refine ⟨_, rfl, _, rfl, a, D, rfl, S.ox, n0, .inl ⟨ha, fun dx hd hda => ?_⟩⟩
      refine k dx _ hd hda upd_same (by rw [upd_ne hda]; exact upd_same) fun b hb1 hb2 => ?_
      rw [upd_ne hb1, upd_ne hb2]
theorem scNoStepInit : SupScope ["self", "before", "after", "__class__"] ["self", "before", "after"] (defScope sNoStepInit) := ⟨NdefX.nscope_by (by decide +kernel), rfl⟩
def fsNoStep : List V → List (Str × V)
  | [v0, v1] => [("after", v1), ("before", v0)]
  | _ => []
def okNoStep : List V → Prop
  | [v0, v1] => isTxt v0 ∧ isTxt v1
  | _ => False
theorem ok_NoStepInit {f D cc : Addr} {fd : FuncData} (F : SupFn P K mg "__init__" "NoStep.__init__" sNoStepInit f D cc fd) (S : SupC K D D) (n0 : PySem.W.findIn K (.ref D) "before" = some none) (n1 : PySem.W.findIn K (.ref D) "after" = some none) : FnOk P w K mg base CX 1 f fd ["self", "before", "after"] (spErr D 2 okNoStep fsNoStep) := by
  refine fn_sup F scNoStepInit rfl rfl rfl rfl (fun vs H Q E h => ?_) (fun _ _ => rfl) (fun _ => rfl) (fun _ => rfl) (fun Fn A outer s H vs Q E hsc hcl hr h => ?_)
  · obtain ⟨a, us, rfl, hl, _⟩ := h
    rw [List.length_cons, hl]
    rfl
  · obtain ⟨a, us, rfl, hl, ok, ha, k⟩ := h
    obtain ⟨nm, ql, pr, bd, scp, cl, cdx⟩ := Fn
    simp only at hsc hcl
    subst hsc hcl
    match us, hl, ok, k with
    | [v0, v1], _, ⟨⟨x0, e0, l0⟩, ⟨x1, e1, l1⟩⟩, k =>
      subst e0
      subst e1
      refine ⟨_, _, a, D, pe_joined (PJ.cons pe_str (PJ.cons (pe_fmt (pv 1)) (PJ.cons pe_str (PJ.cons (pe_fmt (pv 2)) PJ.nil)))), (pss_cons (ps_ost (pv 0) (pv 1)) (pss_one (ps_ost (pv 0) (pv 2)))), rfl, S, ha, ?_⟩
      refine js_short (fun out => ?_) _ _ (fun t ht => ?_) (by decide)
      rotate_left
      · simp only [List.mem_cons, List.not_mem_nil, or_false] at ht
        rcases ht with rfl | rfl | rfl | rfl
        · exact short_c
        · exact short_v rfl l0
        · exact short_c
        · exact short_v rfl l1
      refine ⟨ha, ?_⟩
      refine ⟨_, rfl, _, rfl, a, D, rfl, S.ox, n0, .inl ⟨ha, fun dx hd hda => ?_⟩⟩
      refine ⟨_, rfl, _, rfl, a, D, rfl, S.ox, n1, .inr ⟨dx, [("before", .str x0)], ?_, ?_, (by show 1 ≤ 900; decide), ?_⟩⟩
      · exact upd_same
      · rw [upd_ne hda]; exact upd_same
      refine k dx _ hd hda (by simp only [upd_ne (Ne.symm hda), upd_same]) upd_same fun b hb1 hb2 => ?_
      simp only [upd_ne hb1, upd_ne hb2]
end
end Yd
namespace Yd
open PySem L2
/-! ### tuple(d) of a dict: its keys -/
section
open PySem.W PySem.Calls PyProof.Rows
variable {prog : Program} {w : World} {A : Around} {E : Value → Shared → Prop} {s : Shared} {T : String} {r d : Addr} {n : Nat} {P : Nat → Value → Prop} {OK : Heap → Prop}
/-- what is collected of such a thing -/
theorem collect_src {Q : List Value → Shared → Prop} (Z : KdlSrc prog w T r d n P OK) (hh : A.handled = none) (hok : OK s.heap) (hn : n ≤ sizeLine)
    (hQ : ∀ (h' : Heap) (tk : Nat) (acc : Array Value), (∀ b o, s.heap.get? b = some o → h'.get? b = some o) → ItemsOf P acc n → Q acc.toList { s with heap := h', toks := tk }) :
    wpAny (model prog w) A (collect (.ref r)) Q E s := by
  have new : (s.heap.push { cls := .type "list", data := .seq ([] : List Value).toArray }).get? s.heap.objs.size = some { cls := .type "list", data := .seq #[] 0 } := Heap.get?_push_size _ rfl
  have up : ∀ b o, s.heap.get? b = some o → (s.heap.push { cls := .type "list", data := .seq ([] : List Value).toArray }).get? b = some o := fun b o e => Heap.get?_push_of_some _ e
  have lt := Z.there _ hok
  unfold collect
  refine wpAny_bind (wpAny_runValue (codeAny_builtin F.entry_proto_collect ?_))
  rw [Around.under_plainId F.plain_proto_collect _]
  refine wpAny_bind (m := newList []) (wpAny_newObj_type (wpAny_pure ⟨plainId_quiet F.plain_list_iadd _, codeAny_builtin F.entry_list_iadd ?_⟩))
  rw [Around.under_plainId F.plain_list_iadd _]
  refine wpAny_mono (kdl_extend (A := A) (s := { s with heap := s.heap.push { cls := .type "list", data := .seq ([] : List Value).toArray } })
    (R := fun rr s' => rr = .ok (.ret (.ref s.heap.objs.size)) ∧ ∃ (h' : Heap) (tk : Nat) (acc : Array Value) (c' : Nat), s' = { s with heap := h', toks := tk } ∧ (∀ b o, s.heap.get? b = some o → h'.get? b = some o) ∧
      h'.get? s.heap.objs.size = some { cls := .type "list", dict := none, data := .seq acc c', slots := #[] } ∧ ItemsOf P acc n)
    Z hh (Z.keep _ _ hok fun b _ o e => up b o e) s.heap.objs.size (Nat.ne_of_gt lt.1) (Nat.ne_of_gt lt.2) (.ref s.heap.objs.size) 0 new
    (fun h' tk acc c' k e hi => ⟨rfl, h', tk, acc, c', rfl, fun b o q => k b o (Nat.ne_of_lt (Heap.lt_size q)) (up b o q), e, hi⟩) hn) (fun fin s' z => ?_) fun e s' z => absurd z.1 (by simp)
  have done : ∀ {rr : Result} {s2 : Shared}, (rr = .ok (.ret (.ref s.heap.objs.size)) ∧ ∃ (h' : Heap) (tk : Nat) (acc : Array Value) (c' : Nat), s2 = { s with heap := h', toks := tk } ∧ (∀ b o, s.heap.get? b = some o → h'.get? b = some o) ∧
      h'.get? s.heap.objs.size = some { cls := .type "list", dict := none, data := .seq acc c', slots := #[] } ∧ ItemsOf P acc n) → ∃ h' tk acc c', rr = .ok (.ret (.ref s.heap.objs.size)) ∧ s2 = { s with heap := h', toks := tk } ∧
      h'.get? s.heap.objs.size = some { cls := .type "list", dict := none, data := .seq acc c', slots := #[] } ∧ Q acc.toList { s with heap := h', toks := tk } := fun ⟨e1, h', tk, acc, c', e2, k, e3, hi⟩ => ⟨h', tk, acc, c', e1, e2, e3, hQ h' tk acc k hi⟩
  cases fin with
  | done f =>
    obtain ⟨h', tk, acc, c', e, rfl, hS, q⟩ := done z
    cases e
    exact wpAny_bind (m := load s.heap.objs.size) (wpAny_load hS (wpAny_pure q))
  | again c2 =>
    refine ⟨z.1, codeAny_mono z.2 fun rr s'' y => ?_⟩
    obtain ⟨h', tk, acc, c', rfl, rfl, hS, q⟩ := done y
    exact wpAny_bind (m := load s.heap.objs.size) (wpAny_load hS (wpAny_pure q))
theorem tuple_src {Q : Value → Shared → Prop} (Z : KdlSrc prog w T r d n P OK) (hh : A.handled = none) (hok : OK s.heap) (hn : n ≤ sizeLine)
    (hQ : ∀ (h' : Heap) (tk : Nat) (acc : Array Value), (∀ b o, s.heap.get? b = some o → h'.get? b = some o) → ItemsOf P acc n → Q (.ref h'.objs.size) { s with heap := h'.push { cls := .type "tuple", data := .seq acc }, toks := tk }) :
    wpAny (model prog w) A (call (.type "tuple") [.ref r]) Q E s := by
  refine callType_codes (Q₁ := fun obj s₁ => s₁.TypeIs obj "tuple" ∧ Q obj s₁) F.called_tuple (F.typeCall_tuple_1 _) F.entry_object_init ?_ fun obj s₁ h₁ =>
    ⟨h₁.1, F.args_object_init_2 obj _, object_init_meets F.called_tuple.init.lookup F.called_tuple.made (by decide) prog w A.in1 _ s₁ ⟨h₁.1, rfl, h₁.2⟩⟩
  refine codeAny_of_tree (wpAny_bind (wpAny_of_eq (F.newCall_tuple_1 _) (wpAny_pure ⟨plainId_quiet F.plain_tuple_new _, codeAny_builtin F.entry_tuple_new ?_⟩)))
  rw [Around.under_plainId F.plain_tuple_new _]
  have f1 := sub_tuple_self
  have f2 := init_tuple_lookup
  have f3 := madeHere_tuple
  have f4 := Z.type s hok
  have f5 := Z.notTuple
  have f6 := Z.notList
  have hz : A.in1.in1.handled = none := hh
  wp_walk using wpAny_typeOf f4, collect_src (A := A.in1.in1) Z hz hok hn
  intro h' tk acc hk hacc
  have sz : acc.toList.toArray.size ≤ sizeLine := by rw [Array.toArray_toList, hacc.1]; exact hn
  have back : acc.toList.toArray = acc := by simp
  refine wpAny_bind (m := Builtin.Tuple.tupleExact acc.toList.toArray) ?_
  unfold Builtin.Tuple.tupleExact
  refine wpAny_newObj_type ?k1 ?k2
  case k2 => exact sz
  refine wpAny_pure ?_
  rw [back]
  exact ⟨⟨_, Heap.get?_push_size _ rfl, rfl⟩, hQ h' tk acc hk hacc⟩
end
section
open PySem.W PySem.Calls PyProof.Rows
variable {X : Cx}
/-- tuple(d), d with keys that are ints and texts -/
theorem call_tupleD (hc : X.calm = true) : CallR X (.type "tuple") (fun xs H Q => ∃ (a : Addr) (kvs : List (Key × V)), xs = [.ref a] ∧ Rd H a (.dK kvs) ∧ ∀ p, H p = none → Q (.ref p) (upd H p (.tup (kvs.map fun kv => kV kv.1)))) := by
  rintro pins s σ H xs us Q I r ⟨a, kvs, rfl, hd, q⟩
  obtain ⟨u, rfl, rx⟩ := vals1 r
  cases rx
  obtain ⟨z, lo, vs, rel, dd⟩ := dk_rd I.hok hd
  obtain ⟨ep, hat⟩ := dd.dictAt
  have ek : (kvs.map fun kv => kV kv.1) = vs.map fun p => kV p.1 := by
    have e := congrArg (List.map kV) rel.keys
    rw [List.map_map, List.map_map] at e
    exact e
  have hlen : vs.length ≤ sizeLine := by rw [← rel.length]; exact z
  refine tuple_src (kdl_dict (knd := mixKind X.prog X.w) (kvs := vs) (ep := ep) lo) (I.ok.hd hc) hat hlen fun h' tk acc hk hacc => ?_
  have hv : Vals (vs.map fun p => kV p.1) acc.toList := keys_at (by rw [Array.length_toList]; exact hacc.1) fun j v e => hacc.2 j v (by rw [← Array.getElem?_toList]; exact e)
  have I1 : Inv X pins σ H { s with heap := h', toks := tk } := I.kept hk
  refine ⟨.ref h'.objs.size, upd H h'.objs.size (.tup (kvs.map fun kv => kV kv.1)), I1.laid (t' := tk) (fun b o e => Heap.get?_push_of_some _ e) (Nat.le_refl _) ?_, rfl, q _ (I1.hok.fresh (Nat.le_refl _))⟩
  refine ⟨by rw [List.length_map]; exact z, acc.toList, by rw [ek]; exact hv, ?_⟩
  have e : acc = acc.toList.toArray := by simp
  rw [e]
  exact IsTup.new _ _
end
end Yd
namespace Yd
open PySem L2
/-! ### a def read off its class: C.m(..) -/
section
open PySem.W
variable {X : Cx} {CX : CXT} {k : Nat} {f C : Addr} {mc : Value} {fd : FuncData} {ps : List Str} {sp : Sp} {dvs : List V} {ds : List Value} {E : XK} {m : Str} {pos apos : Pos} {e o : Expr} {es : List Expr} {ta : TE} {t : TA} {pl : Sem Bool}
def tCfun (C : Addr) (sp : Sp) (dvs : List V) (E : XK) (ta : TE) (t : TA) : TE := fun σ H Q => ta σ H fun x H1 => x = .ref C ∧ t σ H1 fun vs H2 => sp (vs ++ dvs) H2 Q E
theorem pe_cfun (he : PE X o ta) (r : ClX.CRead X.K C mc) (c : findCls X.K (.ref C) mc m = some (.val (.ref f))) (F : FnOk X.prog X.w X.K X.mg X.base CX k f fd ps sp) (hr : Room k X.A) (hk : keepIn X.K (.ref f) = true) (hb : Binds X.K fd ps ds) (hd : Vals dvs ds) (hx : Passes CX X E)
    (ha : PA X (e :: es) t) (hst : starEach (e :: es) X.env = (false, eval e X.env) :: starEach es X.env := by rfl) (hpl : (backTo pos (starEach es X.env)).any (·.1) = false := by rfl)
    (ht : eval (.Call (.Attribute o m apos) (e :: es) [] pos) X.env = (do
      let ov ← eval o X.env
      standAt apos.atName
      let (f, first) ← holding [ov] (getMethod ov m pl)
      callWith pos f first (backTo pos (starEach (e :: es) X.env)) (backToKw pos (keywordEach [] X.env))) := by rfl) :
    PE X (.Call (.Attribute o m apos) (e :: es) [] pos) (tCfun C sp dvs E ta t) := by
  refine ⟨fun pins s σ H Q I h => methodCall_KW (thn (he.run pins s σ H _ I h) fun u s1 ⟨x, H1, I1, rx, ex, q⟩ => ?_) ht⟩
  subst ex
  obtain rfl : u = Value.ref C := rx
  refine method_cls I1.kIn r.ga (cls_value I1.kIn r.rd c rfl ?_)
  have I2 := I1.tok (s1.toks + 1)
  exact callWith_K (first := []) (h₀ := X.base) I.ok.mod.kin hk (thn (ha.run pos pins _ σ H1 _ I2 q) fun us s2 ⟨vs, H2, I3, rv, q2⟩ => ⟨I3.kIn, run_fn F hr hb hd hx I3 rv q2⟩) hst hpl
end
/-! ### o.m(..) within a try -/
section
variable {X : Cx} {CX : CXT} {k : Nat} {f C : Addr} {fd : FuncData} {ps : List Str} {sp : Sp} {E : St → XK} {m : Str} {pos apos : Pos} {e o : Expr} {es : List Expr} {ta : TE} {t : TA} {pl : Sem Bool}
def tMethE (C : Addr) (m : Str) (sp : Sp) (E : St → XK) (ta : TE) (t : TA) : TE := fun σ H Q => ta σ H fun x H1 => ∃ a dx fs, x = .ref a ∧ H1 a = some (.ins C dx fs) ∧ fs.lookup m = none ∧ t σ H1 fun vs H2 => sp (x :: vs) H2 Q (E σ)
theorem pe_methE (he : PE X o ta) (c : Cls X.K C) (hm : Meth X.K C m f) (F : FnOk X.prog X.w X.K X.mg X.base CX k f fd ps sp) (hr : Room k X.A) (hb : Binds X.K fd ps []) (hx : ∀ σ, PassesAt CX X σ (E σ)) (ha : PA X (e :: es) t)
    (hst : starEach (e :: es) X.env = (false, eval e X.env) :: starEach es X.env := by rfl) (hpl : (backTo pos (starEach es X.env)).any (·.1) = false := by rfl)
    (ht : eval (.Call (.Attribute o m apos) (e :: es) [] pos) X.env = (do
      let ov ← eval o X.env
      standAt apos.atName
      let (f, first) ← holding [ov] (getMethod ov m pl)
      callWith pos f first (backTo pos (starEach (e :: es) X.env)) (backToKw pos (keywordEach [] X.env))) := by rfl) :
    PE X (.Call (.Attribute o m apos) (e :: es) [] pos) (tMethE C m sp E ta t) := by
  refine ⟨fun pins s σ H Q I h => PySem.W.methodCall_KW (thn (he.run pins s σ H _ I h) fun u s1 ⟨x, H1, I1, rx, a, dx, fs, ex, ea, l, q⟩ => ?_) ht⟩
  subst ex
  obtain rfl : u = Value.ref a := rx
  refine getmeth_ok I1 ea c hm l ?_
  exact PySem.W.callWith_K (first := [.ref a]) (h₀ := X.base) I.ok.mod.kin hm.kp (thn (ha.run pos pins s1 σ H1 _ I1 q) fun us s2 ⟨vs, H2, I2, r, q2⟩ => ⟨I2.kIn, run_fnS (us := .ref a :: us) (vs := .ref a :: vs) F hr hb (hx σ) I2 (.cons rfl r) q2⟩) hst hpl
end
end Yd
namespace Yd
open PySem L2
/-! ### the errors as they are raised; the steps of a kind in the heap -/
/-- an error class as the top has made it, with what its __init__ promises -/
structure ErrOk (P : Program) (w : World) (K : PySem.W.Frag) (mg : Str → Option Value) (base : Heap) (x : Str) (C : Addr) (n : Nat) (ok : List V → Prop) (fs : List V → List (Str × V)) : Prop where
  g : mg x = some (.ref C)
  ox : OexC K C
  ini : ∃ fI fd ps, PySem.W.findIn K (.ref C) "__init__" = some (some (.ref fI)) ∧ PySem.W.typeIn K (.ref fI) = some (.type "function") ∧ FnOk P w K mg base CX0 1 fI fd ps (spErr C n ok fs) ∧ Binds K fd ps []
/-- what a raised error asks: its class, its fields, its own new dict -/
def Raised (C : Addr) (us : List V) (fs : List V → List (Str × V)) (H : Hp) (E : XK) : Prop := ∀ d H', Same H H' → H d = none → H' d = some (.xd (fs us)) → E (.ref C) (some d) H'
section
variable {X : Cx} {x : Str} {C : Addr} {n : Nat} {ok : List V → Prop} {fs : List V → List (Str × V)} {e : Expr} {es : List Expr} {ta : TA} {p pos : Pos}
theorem pmk_err (O : ErrOk X.prog X.w X.K X.mg X.base x C n ok fs) (hr : Room 2 X.A) (hg : Gl X x) (ha : PA X (e :: es) ta)
    (hdb : (x == ("__debug__" : Str)) = false := by decide) (he : starEach (e :: es) X.env = (false, eval e X.env) :: starEach es X.env := by rfl) (hpl : (backTo pos (starEach es X.env)).any (·.1) = false := by rfl) :
    PMk X (.Call (.Name x p) (e :: es) [] pos) (tMkO C (spErr C n ok fs) [] ta) := by
  obtain ⟨fI, fd, ps, i1, i2, F, b⟩ := O.ini
  exact pmk_oex O.ox i1 i2 F hr b .nil pass0 hg O.g ha hdb he hpl
/-- the reading of a raise, answered -/
theorem err_read {us : List V} {H1 : Hp} {Q : XK} (hl : us.length = n) (hn : n ≤ 1000) (hok : ok us) (hR : Raised C us fs H1 Q) : us.length ≤ 1000 ∧ ∀ a, H1 a = none → spErr C n ok fs (.ref a :: (us ++ [])) (upd H1 a (exo a C none))
      (fun v H2 => v = .non ∧ ∃ (d : Addr) (gs : List (Str × V)), H2 a = some (exo a C (some d)) ∧ H2 d = some (exd d gs) ∧ H1 d = none ∧ Q (.ref C) (some d) (upd (del H2 a) d (.xd gs))) (fun _ _ _ => False) := by
  refine ⟨by omega, fun a ha => ⟨a, us, by rw [List.append_nil], hl, hok, upd_same, fun d H' hd hda h1 h2 h3 => ?_⟩⟩
  have hd1 : H1 d = none := by rw [upd_ne hda] at hd; exact hd
  refine ⟨rfl, d, fs us, h1, h2, hd1, hR d _ (fun b o q => ?_) hd1 upd_same⟩
  have nb : b ≠ a := ne_of_none q ha
  have nd : b ≠ d := ne_of_none q hd1
  rw [upd_ne nd, del_ne nb, h3 b nb nd, upd_ne nb]
  exact q
end

/-! ### dicts from texts to addresses -/
def dP (ss : List Str) (es : List Addr) : List (Key × V) := (ss.zip es).map fun p => (Sum.inr p.1, V.ref p.2)
theorem dP_nil {es : List Addr} : dP [] es = [] := rfl
theorem dP_cons {s : Str} {ss : List Str} {e : Addr} {es : List Addr} : dP (s :: ss) (e :: es) = (Sum.inr s, V.ref e) :: dP ss es := rfl
theorem dP_none : ∀ {ss : List Str} {es : List Addr} {s : Str}, s ∉ ss → valV (dP ss es) (Sum.inr s : Key) = none
  | [], _, _, _ => rfl
  | _ :: _, [], _, _ => rfl
  | a :: r, e :: es, s, h => by
    have h1 : ¬ (Sum.inr a : Key) = Sum.inr s := fun z => h (by injection z with z; rw [z]; exact List.mem_cons_self ..)
    rw [dP_cons, valV_neg h1]
    exact dP_none fun m => h (List.mem_cons_of_mem _ m)
theorem dP_some : ∀ {ss : List Str} {es : List Addr} {i : Nat} {s : Str} {e : Addr}, ss.Nodup → ss[i]? = some s → es[i]? = some e → valV (dP ss es) (Sum.inr s : Key) = some (.ref e)
  | [], _, _, _, _, _, h, _ => by simp at h
  | _ :: _, [], _, _, _, _, _, h => by simp at h
  | a :: r, b :: es, 0, s, e, _, h1, h2 => by
    simp at h1 h2
    subst h1 h2
    exact valV_pos rfl
  | a :: r, b :: es, i + 1, s, e, nd, h1, h2 => by
    have hm : s ∈ r := List.mem_of_getElem? (by simpa using h1)
    have n1 : ¬ (Sum.inr a : Key) = Sum.inr s := fun z => (List.nodup_cons.mp nd).1 (by injection z with z; rw [z]; exact hm)
    rw [dP_cons, valV_neg n1]
    exact dP_some (i := i) (List.nodup_cons.mp nd).2 (by simpa using h1) (by simpa using h2)
theorem dP_snoc {s : Str} {e : Addr} : ∀ {ss : List Str} {es : List Addr}, ss.length = es.length → dP (ss ++ [s]) (es ++ [e]) = dP ss es ++ [(Sum.inr s, V.ref e)]
  | [], [], _ => rfl
  | [], _ :: _, h => by simp at h
  | _ :: _, [], h => by simp at h
  | a :: r, b :: es, h => by
    show (Sum.inr a, V.ref b) :: dP (r ++ [s]) (es ++ [e]) = _
    rw [dP_snoc (by simpa using h)]
    rfl
theorem dP_len : ∀ {ss : List Str} {es : List Addr}, ss.length = es.length → (dP ss es).length = ss.length
  | [], [], _ => rfl
  | [], _ :: _, h => by simp at h
  | _ :: _, [], h => by simp at h
  | a :: r, b :: es, h => by rw [dP_cons, List.length_cons, List.length_cons, dP_len (by simpa using h)]
theorem dP_is {ss : List Str} {es : List Addr} {s : Str} (nd : ss.Nodup) (hl : ss.length = es.length) : (valV (dP ss es) (Sum.inr s : Key)).isSome = decide (s ∈ ss) := by
  by_cases h : s ∈ ss
  · obtain ⟨i, hi⟩ := List.mem_iff_getElem?.mp h
    have hj : i < es.length := by rw [← hl]; exact (List.getElem?_eq_some_iff.mp hi).1
    rw [dP_some nd hi (List.getElem?_eq_getElem hj), decide_eq_true h]
    rfl
  · rw [dP_none h, decide_eq_false h]
    rfl
theorem dP_key {ss : List Str} {es : List Addr} {i : Nat} {k : Key} {v : V} (hl : ss.length = es.length) (h : (dP ss es)[i]? = some (k, v)) : ∃ s e, ss[i]? = some s ∧ es[i]? = some e ∧ k = Sum.inr s ∧ v = .ref e := by
  have hi : i < ss.length := by rw [← dP_len hl]; exact (List.getElem?_eq_some_iff.mp h).1
  have hj : i < es.length := by omega
  unfold dP at h
  have ez : (ss.zip es)[i]? = some (ss[i], es[i]) := List.getElem?_zip_eq_some.mpr ⟨List.getElem?_eq_getElem hi, List.getElem?_eq_getElem hj⟩
  rw [List.getElem?_map, ez] at h
  have h := Option.some.inj h
  injection h with h1 h2
  exact ⟨_, _, List.getElem?_eq_getElem hi, List.getElem?_eq_getElem hj, h1.symm, h2.symm⟩
theorem dP_keys {ss : List Str} {es : List Addr} (hl : ss.length = es.length) : ((dP ss es).map fun kv => kV kv.1) = ss.map V.str := by
  unfold dP
  rw [List.map_map]
  have e : ((fun kv : Key × V => kV kv.1) ∘ fun p : Str × Addr => ((Sum.inr p.1 : Key), V.ref p.2)) = V.str ∘ Prod.fst := rfl
  rw [e, ← List.map_map, List.map_fst_zip (by omega)]

/-- the steps of a kind: at ds the dict of its standings ss, at es the dicts of the standings to which R leads, at most m in each -/
structure StepsAt (H : Hp) (ds : Addr) (ss : List Str) (es : List Addr) (R : Str → Str → Bool) (m : Nat) : Prop where
  d : H ds = some (.dK (dP ss es))
  len : ss.length = es.length
  nd : ss.Nodup
  ed : es.Nodup
  no : ds ∉ es
  at_ : ∀ (i : Nat) (e : Addr) (s : Str), es[i]? = some e → ss[i]? = some s → ∃ kvs : List (Key × V), H e = some (.dK kvs) ∧ kvs.length ≤ m ∧ ∀ t : Str, (valV kvs (Sum.inr t)).isSome = R s t
theorem StepsAt.keep {H H' : Hp} {ds : Addr} {ss : List Str} {es : List Addr} {R : Str → Str → Bool} {m : Nat} (S : StepsAt H ds ss es R m) (k : ∀ b kvs, H b = some (.dK kvs) → H' b = some (.dK kvs)) : StepsAt H' ds ss es R m :=
  ⟨k _ _ S.d, S.len, S.nd, S.ed, S.no, fun i e s h1 h2 => let ⟨kvs, h, r⟩ := S.at_ i e s h1 h2; ⟨kvs, k _ _ h, r⟩⟩
/-- an object of the class at C with these steps -/
def KindAt (H : Hp) (a C : Addr) (ss : List Str) (R : Str → Str → Bool) (m : Nat) : Prop := ∃ dx fs ds es, H a = some (.ins C dx fs) ∧ fs.lookup ("_steps" : Str) = some (.ref ds) ∧ fs.lookup ("allow" : Str) = none ∧ fs.lookup ("standings" : Str) = none ∧ fs.lookup ("steps_from" : Str) = none ∧ StepsAt H ds ss es R m
/-- nothing that isn't a dict has changed -/
def NoD (H H' : Hp) : Prop := ∀ b o, H b = some o → (∀ kvs, o ≠ .dK kvs) → H' b = some o
/-- what a class of kinds must have -/
structure KindC (K : PySem.W.Frag) (C fA fS fF : Addr) : Prop where
  cls : Cls K C
  nS : NoAttr K C "_steps"
  mA : Meth K C "allow" fA
  mS : Meth K C "standings" fS
  mF : Meth K C "steps_from" fF
end Yd
namespace Yd
open PySem L2
/-! ### a list or a tuple of texts -/
/-- the same over a tuple -/
theorem dc_tup {K : PySem.W.Frag} {a : Addr} {xs : List V} {g : TG} {tt : TT} {tk tv : TE} {vs : List Nat} {σ : St} {H1 : Hp} {D : Addr} {Qd : Hp → Prop} (Pv : Nat → Hp → Prop) (h0 : Pv 0 (upd H1 D (.dK []))) (hl : ∀ i H, i ≤ xs.length → Pv i H → SqT K H a xs)
    (hs : ∀ i x H, xs[i]? = some x → Pv i H → g x (wipe σ vs) H fun σ2 H2 => wipe σ2 vs = wipe σ vs ∧ tt σ2 H2 fun b H3 =>
      if b = true then tk σ2 H3 fun y H4 => tv σ2 H4 fun z H5 => ∃ kvs k, y = kV k ∧ H5 D = some (.dK kvs) ∧ kvs.length < sizeLine ∧ Pv (i + 1) (upd H5 D (.dK (putK kvs k z))) else Pv (i + 1) H3) (hd : ∀ H, Pv xs.length H → Qd H) :
    ∃ W : Nat → Nat → Hp → Prop, (∃ m, W 0 m (upd H1 D (.dK []))) ∧ ∀ i m H, W i m H →
      ((Itt K a).stop i H ∧ Qd H) ∨ ((Itt K a).go i H ∧ ∃ Nx : Hp → Prop, (∀ H', Nx H' → ∃ m', m' < m ∧ W (i + 1) m' H') ∧ ∀ x H', (Itt K a).yld i H x H' → g x (wipe σ vs) H' fun σ2 H2 => wipe σ2 vs = wipe σ vs ∧ tt σ2 H2 fun b H3 =>
        if b = true then tk σ2 H3 fun y H4 => tv σ2 H4 fun z H5 => ∃ kvs k, y = kV k ∧ H5 D = some (.dK kvs) ∧ kvs.length < sizeLine ∧ Nx (upd H5 D (.dK (putK kvs k z))) else Nx H3) := by
  refine ⟨fun i m H => m = xs.length - i ∧ i ≤ xs.length ∧ Pv i H, ⟨_, rfl, Nat.zero_le _, h0⟩, fun i m H ⟨em, hi, p⟩ => ?_⟩
  subst em
  have q := hl i H hi p
  by_cases hlt : i < xs.length
  · exact .inr ⟨⟨xs, xs[i], q, List.getElem?_eq_getElem hlt⟩, Pv (i + 1), fun _ p' => ⟨xs.length - (i + 1), by omega, rfl, hlt, p'⟩, fun x H' ⟨e, y⟩ => by subst e; exact hs i x _ (y xs q) p⟩
  · have e : i = xs.length := by omega
    subst e
    exact .inl ⟨⟨xs, q, Nat.le_refl _⟩, hd H p⟩
/-- a list or a tuple of texts -/
def TxS (K : PySem.W.Frag) (H : Hp) (a : Addr) (ss : List Str) : Prop := SqL K H a (ss.map V.str) ∨ SqT K H a (ss.map V.str)
theorem Same.seqT {K : PySem.W.Frag} {H H' : Hp} {a : Addr} {xs : List V} (s : Same H H') (h : SqT K H a xs) : SqT K H' a xs := by
  rcases h with (h | ⟨o, h⟩) | h
  · exact .inl (.inl (s _ _ h))
  · exact .inl (.inr ⟨o, s _ _ h⟩)
  · exact .inr h
theorem TxS.keep {K : PySem.W.Frag} {H H' : Hp} {a : Addr} {ss : List Str} (h : TxS K H a ss) (s : Same H H') : TxS K H' a ss := h.imp (fun h => Same.seq s h) fun h => Yd.Same.seqT s h
end Yd
namespace Yd
open PySem L2
/-! ### the class Steps -/
def spStepsInit (K : PySem.W.Frag) (CR : Addr) : Sp := fun vs H Q E => ∃ (a C dx : Addr) (fs : List (Str × V)) (l : Addr) (ss : List Str), vs = [.ref a, .ref l] ∧ H a = some (.ins C dx fs) ∧ fs.length ≤ 900 ∧ Cls K C ∧ NoAttr K C "_steps" ∧
  TxS K H l ss ∧ ss.length ≤ 1000 ∧ (∀ s ∈ ss, s.length ≤ 100) ∧
  (∀ (i : Nat) (s : Str), ss[i]? = some s → s ∈ ss.take i → (ss.take i).Nodup → ∀ d H', Gro a H H' → H d = none → H' d = some (.xd (fsRepeated [.str s])) → E (.ref CR) (some d) H') ∧
  (ss.Nodup → ∀ ds es H', H ds = none → (∀ e ∈ es, H e = none) → Gro a H H' → H' a = some (.ins C dx (putF "_steps" (.ref ds) fs)) → StepsAt H' ds ss es (fun _ _ => false) 0 → Q .non H')
section
variable {P : Program} {w : World} {K : PySem.W.Frag} {mg : Str → Option Value} {base : Heap}
theorem take_more {α : Type} {l : List α} {i : Nat} {x : α} (h : l[i]? = some x) : l.take (i + 1) = l.take i ++ [x] := by
  rw [List.take_add_one, h]
  rfl
theorem get_strs {ns : List Str} {i : Nat} {x : V} (h : (ns.map V.str)[i]? = some x) : ∃ z, ns[i]? = some z ∧ x = .str z := by
  rw [List.getElem?_map] at h
  cases e : ns[i]? with
  | none => rw [e] at h; cases h
  | some z => rw [e] at h; exact ⟨z, rfl, (Option.some.inj h).symm⟩
theorem scStepsInit : FnScope ["self", "standings", "standing"] ["self", "standings"] (defScope sStepsInit) := ⟨rfl, rfl, rfl, by decide +kernel, rfl, by decide +kernel, by decide +kernel⟩
theorem ok_stepsInit {f CR : Addr} {fd : FuncData} (F : Fun K "__init__" "Steps.__init__" sStepsInit f fd) (O : ErrOk P w K mg base "Repeated" CR 1 okRepeated fsRepeated) :
    FnOk P w K mg base (L2.CX P w) 3 f fd ["self", "standings"] (spStepsInit K CR) := by
  refine F.okX scStepsInit (fun vs H Q E h => ?_) (fun cdv A outer s H vs Q E hr h => ?_)
  · obtain ⟨a, C, dx, fs, l, ss, rfl, _⟩ := h
    rfl
  · obtain ⟨a, C, dx, fs, l, ss, rfl, ha, hfs, cls, nS, hl, hsl, hsh, kR, kN⟩ := h
    have hu := hu_of hr
    rcases hl with hl | hl
    · refine ⟨_, pss_cons (ps_fld (pv 0) pe_dnewK rfl)
        (pss_one (ps_for (passes_of rfl) rfl (pi_list (pv 1)) (pg_name (i := 2) scStepsInit.nd rfl (Or.inl rfl))
          (pss_cons (ps_if (pt_cmp (pc_din hu (pv 2) (pe_fld (pv 0) rfl))) (pss_one (ps_raise rfl (takes_of rfl rfl rfl rfl) (pmk_err O hr rfl (pa_cons (pv 2) pa_nil)))) pss_nil)
          (pss_one (ps_dput hu (pe_fld (pv 0) rfl) (pv 2) pe_dnewK rfl))))), ?_⟩
      -- self._steps = {}
      intro ds hds
      have nad : a ≠ ds := ne_of_none ha hds
      refine ⟨_, rfl, a, C, dx, fs, rfl, (by rw [upd_ne nad]; exact ha), cls, nS, by omega, ?_⟩
      generalize hH1 : upd (upd H ds (.dK [])) a (.ins C dx (putF "_steps" (.ref ds) fs)) = H1
      have g1 : Gro a H H1 := fun b o q n => by rw [← hH1, upd_ne n, upd_ne (ne_of_none q hds)]; exact q
      have e1 : H1 a = some (.ins C dx (putF "_steps" (.ref ds) fs)) := by rw [← hH1, upd_same]
      have d1 : H1 ds = some (.dK []) := by rw [← hH1, upd_ne nad.symm, upd_same]
      have hla : ∀ H' : Hp, Gro a H H' → SqL K H' l (ss.map V.str) := fun H' g => by
        rcases hl with (h | ⟨o, h⟩) | h
        · exact .inl (.inl (g _ _ h (ne_of h ha (by intro z; cases z))))
        · exact .inl (.inr ⟨o, g _ _ h (ne_of h ha (by intro z; cases z))⟩)
        · exact .inr h
      have lk : (putF "_steps" (.ref ds) fs).lookup ("_steps" : Str) = some (V.ref ds) := by rw [lookup_putF, if_pos rfl]
      refine ⟨_, rfl, l, rfl, ⟨_, hla _ g1⟩, for_list (K := K) (a := l) (xs := ss.map V.str)
        (fun i σ H' => ∃ (v : Option V) (es : List Addr), σ = [some (.ref a), some (.ref l), v] ∧ Gro a H H' ∧ H' a = some (.ins C dx (putF "_steps" (.ref ds) fs)) ∧ (∀ e ∈ es, H e = none) ∧ StepsAt H' ds (ss.take i) es (fun _ _ => false) 0)
        ⟨none, [], rfl, g1, e1, (fun e h => nomatch h), ⟨d1, rfl, List.nodup_nil, List.nodup_nil, (fun h => nomatch h), fun i e s h => by simp at h⟩⟩
        (fun i σ H' _ ⟨_, _, _, g, _⟩ => hla _ g) ?_ ?_⟩
      · rintro i y σ H' hi ⟨v, es, rfl, g, ea, hes, S⟩
        obtain ⟨z, hz, rfl⟩ := get_strs hi
        have hzl := hsh z (List.mem_of_getElem? hz)
        refine ⟨_, rfl, _, rfl, a, C, dx, _, _, rfl, ea, cls, nS, lk, ds, _, rfl, DGet.k (k := Sum.inr z) S.d, _, rfl, ?_⟩
        rw [dP_is S.nd S.len]
        refine ite2 (fun hm => ?_) (fun hm => ?_)
        · have hm := of_decide_eq_true hm
          refine ⟨_, rfl, err_read rfl (by decide) ⟨z, rfl, hzl⟩ fun d H2 s2 hd hx => ?_⟩
          exact kR i z hz hm S.nd d H2 (fun b o q n => s2 _ _ (g b o q n)) (by
            by_cases q : d = a
            · rw [q, ea] at hd; cases hd
            · exact g.free hd q) hx
        · have hm : z ∉ ss.take i := fun q => hm (decide_eq_true q)
          -- self._steps[standing] = {}
          intro e he
          have nea : a ≠ e := ne_of_none ea he
          have ned : ds ≠ e := ne_of_none S.d he
          refine ⟨_, rfl, a, C, dx, _, _, rfl, (by rw [upd_ne nea]; exact ea), cls, nS, lk, _, rfl, ds, _, rfl, DPut.k (k := Sum.inr z) (by rw [upd_ne ned]; exact S.d) (small1000 (by rw [dP_len S.len, List.length_take]; omega)), ?_⟩
          refine ⟨_, es ++ [e], rfl, fun b o q n => ?_, ?_, fun c hc => ?_, ?_⟩
          · have nb : b ≠ ds := by rintro rfl; rw [hds] at q; cases q
            rw [upd_ne nb, upd_ne (ne_of_none (g b o q n) he)]
            exact g b o q n
          · rw [upd_ne nad, upd_ne nea]; exact ea
          · rcases List.mem_append.mp hc with hc | hc
            · exact hes c hc
            · rw [List.mem_singleton.mp hc]
              exact g.free he nea.symm
          · have fresh : ∀ c ∈ es, c ≠ e := fun c hc => by
              obtain ⟨j, hj⟩ := List.mem_iff_getElem?.mp hc
              have hjl : j < (ss.take i).length := by rw [S.len]; exact (List.getElem?_eq_some_iff.mp hj).1
              obtain ⟨kvs, h, _⟩ := S.at_ j c _ hj (List.getElem?_eq_getElem hjl)
              exact ne_of_none h he
            refine ⟨?_, by rw [take_more hz, List.length_append, List.length_append, S.len]; rfl, ?_, ?_, ?_, ?_⟩
            · rw [upd_same, take_more hz, dP_snoc S.len, putK_new _ (dP_none hm)]
            · rw [take_more hz]; exact nd_snoc S.nd hm
            · exact nd_snoc S.ed fun m => fresh e m rfl
            · intro m
              rcases List.mem_append.mp m with m | m
              · exact S.no m
              · exact ned (List.mem_singleton.mp m)
            · intro j c q h1 h2
              by_cases hj : j < es.length
              · rw [List.getElem?_append_left hj] at h1
                have h2' : (ss.take i)[j]? = some q := by
                  rw [take_more hz, List.getElem?_append_left (by rw [S.len]; exact hj)] at h2
                  exact h2
                obtain ⟨kvs, h, r⟩ := S.at_ j c q h1 h2'
                have hc := List.mem_of_getElem? h1
                exact ⟨kvs, by rw [upd_ne (show c ≠ ds from fun q => S.no (by rw [← q]; exact hc)), upd_ne (fresh c hc)]; exact h, r⟩
              · rw [List.getElem?_append_right (by omega)] at h1
                have hj0 : j - es.length = 0 := by
                  have := (List.getElem?_eq_some_iff.mp h1).1
                  simp at this
                  omega
                rw [hj0] at h1
                have hc : e = c := Option.some.inj h1
                subst hc
                exact ⟨[], by rw [upd_ne ned.symm, upd_same], by simp, fun t => rfl⟩
      · rintro σ H' ⟨v, es, rfl, g, ea, hes, S⟩
        rw [List.length_map, List.take_length] at S
        exact kN S.nd ds es H' hds hes g ea S
    · refine ⟨_, pss_cons (ps_fld (pv 0) pe_dnewK rfl)
        (pss_one (ps_for (passes_of rfl) rfl (pi_tup (pv 1)) (pg_name (i := 2) scStepsInit.nd rfl (Or.inl rfl))
          (pss_cons (ps_if (pt_cmp (pc_din hu (pv 2) (pe_fld (pv 0) rfl))) (pss_one (ps_raise rfl (takes_of rfl rfl rfl rfl) (pmk_err O hr rfl (pa_cons (pv 2) pa_nil)))) pss_nil)
          (pss_one (ps_dput hu (pe_fld (pv 0) rfl) (pv 2) pe_dnewK rfl))))), ?_⟩
      -- self._steps = {}
      intro ds hds
      have nad : a ≠ ds := ne_of_none ha hds
      refine ⟨_, rfl, a, C, dx, fs, rfl, (by rw [upd_ne nad]; exact ha), cls, nS, by omega, ?_⟩
      generalize hH1 : upd (upd H ds (.dK [])) a (.ins C dx (putF "_steps" (.ref ds) fs)) = H1
      have g1 : Gro a H H1 := fun b o q n => by rw [← hH1, upd_ne n, upd_ne (ne_of_none q hds)]; exact q
      have e1 : H1 a = some (.ins C dx (putF "_steps" (.ref ds) fs)) := by rw [← hH1, upd_same]
      have d1 : H1 ds = some (.dK []) := by rw [← hH1, upd_ne nad.symm, upd_same]
      have hla : ∀ H' : Hp, Gro a H H' → SqT K H' l (ss.map V.str) := fun H' g => by
        rcases hl with (h | ⟨o, h⟩) | h
        · exact .inl (.inl (g _ _ h (ne_of h ha (by intro z; cases z))))
        · exact .inl (.inr ⟨o, g _ _ h (ne_of h ha (by intro z; cases z))⟩)
        · exact .inr h
      have lk : (putF "_steps" (.ref ds) fs).lookup ("_steps" : Str) = some (V.ref ds) := by rw [lookup_putF, if_pos rfl]
      refine ⟨_, rfl, l, rfl, ⟨_, hla _ g1⟩, for_tup (K := K) (a := l) (xs := ss.map V.str)
        (fun i σ H' => ∃ (v : Option V) (es : List Addr), σ = [some (.ref a), some (.ref l), v] ∧ Gro a H H' ∧ H' a = some (.ins C dx (putF "_steps" (.ref ds) fs)) ∧ (∀ e ∈ es, H e = none) ∧ StepsAt H' ds (ss.take i) es (fun _ _ => false) 0)
        ⟨none, [], rfl, g1, e1, (fun e h => nomatch h), ⟨d1, rfl, List.nodup_nil, List.nodup_nil, (fun h => nomatch h), fun i e s h => by simp at h⟩⟩
        (fun i σ H' _ ⟨_, _, _, g, _⟩ => hla _ g) ?_ ?_⟩
      · rintro i y σ H' hi ⟨v, es, rfl, g, ea, hes, S⟩
        obtain ⟨z, hz, rfl⟩ := get_strs hi
        have hzl := hsh z (List.mem_of_getElem? hz)
        refine ⟨_, rfl, _, rfl, a, C, dx, _, _, rfl, ea, cls, nS, lk, ds, _, rfl, DGet.k (k := Sum.inr z) S.d, _, rfl, ?_⟩
        rw [dP_is S.nd S.len]
        refine ite2 (fun hm => ?_) (fun hm => ?_)
        · have hm := of_decide_eq_true hm
          refine ⟨_, rfl, err_read rfl (by decide) ⟨z, rfl, hzl⟩ fun d H2 s2 hd hx => ?_⟩
          exact kR i z hz hm S.nd d H2 (fun b o q n => s2 _ _ (g b o q n)) (by
            by_cases q : d = a
            · rw [q, ea] at hd; cases hd
            · exact g.free hd q) hx
        · have hm : z ∉ ss.take i := fun q => hm (decide_eq_true q)
          -- self._steps[standing] = {}
          intro e he
          have nea : a ≠ e := ne_of_none ea he
          have ned : ds ≠ e := ne_of_none S.d he
          refine ⟨_, rfl, a, C, dx, _, _, rfl, (by rw [upd_ne nea]; exact ea), cls, nS, lk, _, rfl, ds, _, rfl, DPut.k (k := Sum.inr z) (by rw [upd_ne ned]; exact S.d) (small1000 (by rw [dP_len S.len, List.length_take]; omega)), ?_⟩
          refine ⟨_, es ++ [e], rfl, fun b o q n => ?_, ?_, fun c hc => ?_, ?_⟩
          · have nb : b ≠ ds := by rintro rfl; rw [hds] at q; cases q
            rw [upd_ne nb, upd_ne (ne_of_none (g b o q n) he)]
            exact g b o q n
          · rw [upd_ne nad, upd_ne nea]; exact ea
          · rcases List.mem_append.mp hc with hc | hc
            · exact hes c hc
            · rw [List.mem_singleton.mp hc]
              exact g.free he nea.symm
          · have fresh : ∀ c ∈ es, c ≠ e := fun c hc => by
              obtain ⟨j, hj⟩ := List.mem_iff_getElem?.mp hc
              have hjl : j < (ss.take i).length := by rw [S.len]; exact (List.getElem?_eq_some_iff.mp hj).1
              obtain ⟨kvs, h, _⟩ := S.at_ j c _ hj (List.getElem?_eq_getElem hjl)
              exact ne_of_none h he
            refine ⟨?_, by rw [take_more hz, List.length_append, List.length_append, S.len]; rfl, ?_, ?_, ?_, ?_⟩
            · rw [upd_same, take_more hz, dP_snoc S.len, putK_new _ (dP_none hm)]
            · rw [take_more hz]; exact nd_snoc S.nd hm
            · exact nd_snoc S.ed fun m => fresh e m rfl
            · intro m
              rcases List.mem_append.mp m with m | m
              · exact S.no m
              · exact ned (List.mem_singleton.mp m)
            · intro j c q h1 h2
              by_cases hj : j < es.length
              · rw [List.getElem?_append_left hj] at h1
                have h2' : (ss.take i)[j]? = some q := by
                  rw [take_more hz, List.getElem?_append_left (by rw [S.len]; exact hj)] at h2
                  exact h2
                obtain ⟨kvs, h, r⟩ := S.at_ j c q h1 h2'
                have hc := List.mem_of_getElem? h1
                exact ⟨kvs, by rw [upd_ne (show c ≠ ds from fun q => S.no (by rw [← q]; exact hc)), upd_ne (fresh c hc)]; exact h, r⟩
              · rw [List.getElem?_append_right (by omega)] at h1
                have hj0 : j - es.length = 0 := by
                  have := (List.getElem?_eq_some_iff.mp h1).1
                  simp at this
                  omega
                rw [hj0] at h1
                have hc : e = c := Option.some.inj h1
                subst hc
                exact ⟨[], by rw [upd_ne ned.symm, upd_same], by simp, fun t => rfl⟩
      · rintro σ H' ⟨v, es, rfl, g, ea, hes, S⟩
        rw [List.length_map, List.take_length] at S
        exact kN S.nd ds es H' hds hes g ea S
end
end Yd
namespace Yd
open PySem L2
def addR (R : Str → Str → Bool) (b c : Str) : Str → Str → Bool := fun s t => R s t || (decide (s = b) && decide (t = c))
def spStandings (K : PySem.W.Frag) : Sp := fun vs H Q _ => ∃ (a C fA fS fF : Addr) (ss : List Str) (R : Str → Str → Bool) (m : Nat), vs = [.ref a] ∧ KindC K C fA fS fF ∧ KindAt H a C ss R m ∧
  ∀ q, H q = none → Q (.ref q) (upd H q (.tup (ss.map V.str)))
def spAllow (K : PySem.W.Frag) (CU CN : Addr) : Sp := fun vs H Q E => ∃ (a C dx : Addr) (fs : List (Str × V)) (ds : Addr) (es : List Addr) (ss : List Str) (R : Str → Str → Bool) (m : Nat) (b c : Str), vs = [.ref a, .str b, .str c] ∧ Cls K C ∧ NoAttr K C "_steps" ∧
  H a = some (.ins C dx fs) ∧ fs.lookup ("_steps" : Str) = some (.ref ds) ∧ StepsAt H ds ss es R m ∧ m < 1000 ∧ b.length ≤ 100 ∧ c.length ≤ 100 ∧
  (b ∉ ss → Raised CU [.str b] fsUnknown H E) ∧ (b ∈ ss → c ∉ ss → Raised CU [.str c] fsUnknown H E) ∧ (b ∈ ss → c ∈ ss → b = c → Raised CN [.str b, .str c] fsNoStep H E) ∧
  (b ∈ ss → c ∈ ss → b ≠ c → ∀ e H', e ∈ es → Gro e H H' → StepsAt H' ds ss es (addR R b c) (m + 1) → Q .non H')
def spStepsFrom (K : PySem.W.Frag) (CU : Addr) : Sp := fun vs H Q E => ∃ (a C fA fS fF : Addr) (ss : List Str) (R : Str → Str → Bool) (m : Nat) (b : Str), vs = [.ref a, .str b] ∧ KindC K C fA fS fF ∧ KindAt H a C ss R m ∧ ss.length ≤ 1000 ∧ b.length ≤ 100 ∧
  (b ∉ ss → Raised CU [.str b] fsUnknown H E) ∧ (b ∈ ss → ∀ q H', Same H H' → H' q = some (.tup ((ss.filter (R b)).map V.str)) → Q (.ref q) H')
theorem Raised.of {C : Addr} {us : List V} {fs : List V → List (Str × V)} {H H1 : Hp} {E : XK} (h : Raised C us fs H E) (s : Same H H1) : Raised C us fs H1 E := fun d H' s' n x => h d H' (s.trans s') (s.free n) x
section
variable {P : Program} {w : World} {K : PySem.W.Frag} {mg : Str → Option Value} {base : Heap}
theorem scStandings : FnScope ["self"] ["self"] (defScope sStepsStandings) := ⟨rfl, rfl, rfl, by decide +kernel, rfl, by decide +kernel, by decide +kernel⟩
theorem ok_standings {f : Addr} {fd : FuncData} (F : Fun K "standings" "Steps.standings" sStepsStandings f fd) (hT : mg "tuple" = none) : FnOk P w K mg base CX0 1 f fd ["self"] (spStandings K) := by
  refine F.ok scStandings (fun vs H Q E h => ?_) (fun cdv A outer s H vs Q E hr h => ?_)
  · obtain ⟨a, C, fA, fS, fF, ss, R, m, rfl, _⟩ := h
    rfl
  · obtain ⟨a, C, fA, fS, fF, ss, R, m, rfl, kc, ⟨dx, fs, ds, es, ha, l1, l2, l3, l4, S⟩, k⟩ := h
    refine ⟨_, pss_one (ps_ret (pe_callTy (call_tupleD rfl) (by rfl) hT (by decide +kernel) (pa_cons (pe_fld (pv 0) rfl) pa_nil))), ?_⟩
    refine ⟨_, rfl, a, C, dx, fs, _, rfl, ha, kc.cls, kc.nS, l1, ds, _, rfl, .of S.d, fun q hq => ?_⟩
    rw [dP_keys S.len]
    exact k q hq
theorem scAllow : FnScope ["self", "before", "after", "standing"] ["self", "before", "after"] (defScope sStepsAllow) := ⟨rfl, rfl, rfl, by decide +kernel, rfl, by decide +kernel, by decide +kernel⟩
theorem ok_allow {f CU CN : Addr} {fd : FuncData} (F : Fun K "allow" "Steps.allow" sStepsAllow f fd) (OU : ErrOk P w K mg base "Unknown" CU 1 okUnknown fsUnknown) (ON : ErrOk P w K mg base "NoStep" CN 2 okNoStep fsNoStep) :
    FnOk P w K mg base (L2.CX P w) 3 f fd ["self", "before", "after"] (spAllow K CU CN) := by
  refine F.okX scAllow (fun vs H Q E h => ?_) (fun cdv A outer s H vs Q E hr h => ?_)
  · obtain ⟨a, C, dx, fs, ds, es, ss, R, m, b, c, rfl, _⟩ := h
    rfl
  · obtain ⟨a, C, dx, fs, ds, es, ss, R, m, b, c, rfl, kcls, knS, ha, l1, S, hm, hb, hc, k1, k2, k3, k4⟩ := h
    have hu := hu_of hr
    refine ⟨_, pss_cons (ps_for (passes_of rfl) rfl (pi_tup (pe_tup (pa_cons (pv 1) (pa_cons (pv 2) pa_nil)))) (pg_name (i := 3) scAllow.nd rfl (Or.inl rfl))
        (pss_one (ps_if (pt_cmp (pc_dnotin hu (pv 3) (pe_fld (pv 0) rfl))) (pss_one (ps_raise rfl (takes_of rfl rfl rfl rfl) (pmk_err OU hr rfl (pa_cons (pv 3) pa_nil)))) pss_nil)))
      (pss_cons (ps_if (pt_cmpR op_eq (pv 1) (pv 2) (nomark _)) (pss_one (ps_raise rfl (takes_of rfl rfl rfl rfl) (pmk_err ON hr rfl (pa_cons (pv 1) (pa_cons (pv 2) pa_nil))))) pss_nil)
      (pss_one (ps_dput hu (pe_dget hu (pe_fld (pv 0) rfl) (pv 1) (fun _ _ => rfl)) (pv 2) pe_bl rfl))), ?_⟩
    -- for standing in (before, after)
    refine ⟨_, rfl, _, rfl, (by show 2 ≤ sizeLine; decide), fun t ht => ?_⟩
    have st : Same H (upd H t (.tup [.str b, .str c])) := fun q o e => by rw [upd_ne (ne_of_none e ht)]; exact e
    have et : upd H t (.tup [.str b, .str c]) t = some (.tup [.str b, .str c]) := upd_same
    generalize upd H t (.tup [.str b, .str c]) = H1 at st et
    refine ⟨t, rfl, ⟨_, SqT.of et⟩, for_tup (K := K) (a := t) (xs := [.str b, .str c]) (fun i σ H' => H' = H1 ∧ (∃ v : Option V, σ = [some (.ref a), some (.str b), some (.str c), v]) ∧ (0 < i → b ∈ ss) ∧ (1 < i → b ∈ ss ∧ c ∈ ss))
      ⟨rfl, ⟨none, rfl⟩, fun h => absurd h (by omega), fun h => absurd h (by omega)⟩ (fun i σ H' _ ⟨e, _⟩ => by rw [e]; exact SqT.of et) ?_ ?_⟩
    · rintro i y σ H' hi ⟨rfl, ⟨v, rfl⟩, h0, h1⟩
      have S1 := S.keep fun q kvs e => st q _ e
      obtain ⟨z, rfl, hr1, hn, hz⟩ : ∃ z : Str, y = .str z ∧ (z ∉ ss → Raised CU [.str z] fsUnknown H E) ∧ (z ∈ ss → (0 < i + 1 → b ∈ ss) ∧ (1 < i + 1 → b ∈ ss ∧ c ∈ ss)) ∧ z.length ≤ 100 := by
        match i, hi with
        | 0, hi => exact ⟨b, (Option.some.inj hi).symm, k1, fun m => ⟨fun _ => m, fun q => absurd q (by omega)⟩, hb⟩
        | 1, hi => exact ⟨c, (Option.some.inj hi).symm, k2 (h0 (by omega)), fun m => ⟨fun _ => h0 (by omega), fun _ => ⟨h0 (by omega), m⟩⟩, hc⟩
        | i + 2, hi => simp at hi
      refine ⟨_, rfl, _, rfl, a, C, dx, fs, _, rfl, st _ _ ha, kcls, knS, l1, ds, _, rfl, DGet.k (k := Sum.inr z) S1.d, _, rfl, ?_⟩
      rw [dP_is S1.nd S1.len]
      by_cases hz1 : z ∈ ss
      · rw [decide_eq_true hz1]
        exact no rfl ⟨rfl, ⟨_, rfl⟩, hn hz1⟩
      · rw [decide_eq_false hz1]
        exact yes rfl ⟨_, rfl, err_read rfl (by decide) ⟨z, rfl, hz⟩ ((hr1 hz1).of st)⟩
    · rintro σ H' ⟨rfl, ⟨v, rfl⟩, _, h2⟩
      obtain ⟨mb, mc⟩ := h2 (by show 1 < 2; omega)
      have S1 := S.keep fun q kvs e => st q _ e
      refine ⟨_, rfl, _, rfl, rfl, _, rfl, ?_⟩
      by_cases hbc : b = c
      · refine yes (decide_eq_true (by rw [hbc])) ⟨_, rfl, _, rfl, err_read rfl (by decide) ⟨⟨b, rfl, hb⟩, ⟨c, rfl, hc⟩⟩ ((k3 mb mc hbc).of st)⟩
      · refine no (decide_eq_false fun q => hbc (by injection q)) ?_
        obtain ⟨i, hi⟩ := List.mem_iff_getElem?.mp mb
        have hil : i < es.length := by rw [← S.len]; exact (List.getElem?_eq_some_iff.mp hi).1
        obtain ⟨e, he⟩ : ∃ e, es[i]? = some e := ⟨_, List.getElem?_eq_getElem hil⟩
        obtain ⟨kvs, hk, hkl, hkr⟩ := S1.at_ i e b he hi
        have nde : ds ≠ e := fun q => S.no (by rw [q]; exact List.mem_of_getElem? he)
        refine ⟨_, rfl, a, C, dx, fs, _, rfl, st _ _ ha, kcls, knS, l1, _, rfl, ds, .ref e, rfl, ?_, _, rfl, e, _, rfl, DPut.k (k := Sum.inr c) hk (small1000 (by omega)), ?_⟩
        · have q := DGet.k (k := Sum.inr b) S1.d
          rw [dP_some S1.nd hi he] at q
          exact q
        · refine k4 mb mc hbc e _ (List.mem_of_getElem? he) (fun q o h1 n => by rw [upd_ne n]; exact st _ _ h1) ?_
          · refine ⟨by rw [upd_ne nde]; exact S1.d, S1.len, S1.nd, S1.ed, S1.no, fun j c' s' q1 q2 => ?_⟩
            by_cases hj : j = i
            · subst hj
              have e1 : c' = e := Option.some.inj (q1.symm.trans he)
              have e2 : s' = b := Option.some.inj (q2.symm.trans hi)
              subst e1 e2
              refine ⟨_, upd_same, Nat.le_trans (length_putK _ _ _) (by omega), fun t' => ?_⟩
              rw [valV_put]
              show _ = (R s' t' || (decide (s' = s') && decide (t' = c)))
              by_cases ht : t' = c
              · subst ht
                rw [if_pos rfl]
                simp
              · have nk : ¬ (Sum.inr t' : Key) = Sum.inr c := fun z => ht (by injection z)
                rw [if_neg nk, hkr t', decide_eq_false ht]
                simp
            · have nc : c' ≠ e := fun q => hj (nd_ix S1.ed q1 (by rw [q]; exact he))
              have ns : s' ≠ b := fun q => hj (nd_ix S1.nd q2 (by rw [q]; exact hi))
              obtain ⟨kv2, g1, g2, g3⟩ := S1.at_ j c' s' q1 q2
              refine ⟨kv2, by rw [upd_ne nc]; exact g1, by omega, fun t' => ?_⟩
              rw [g3 t']
              show R s' t' = (R s' t' || (decide (s' = b) && decide (t' = c)))
              rw [decide_eq_false ns]
              simp
end
end Yd
namespace Yd
open PySem L2
/-! ### a comprehension over a locked dict's keys -/
theorem lc_keys {d : Addr} {o : Obj} {kvs : List (Key × V)} {g : TG} {tt : TT} {te : TE} {vs : List Nat} {σ : St} {H1 : Hp} {D : Addr} {Qd : Hp → Prop} (Pv : Nat → Hp → Prop) (h0 : Pv 0 (upd H1 D (.lst []))) (hl : ∀ i H, i ≤ kvs.length → Pv i H → H d = some (.frz o (.dK kvs)))
    (hs : ∀ i k v H, kvs[i]? = some (k, v) → Pv i H → g (kV k) (wipe σ vs) H fun σ2 H2 => wipe σ2 vs = wipe σ vs ∧ tt σ2 H2 fun b H3 =>
      if b = true then te σ2 H3 fun y H4 => ∃ acc, H4 D = some (.lst acc) ∧ acc.length < sizeLine ∧ Pv (i + 1) (upd H4 D (.lst (acc ++ [y]))) else Pv (i + 1) H3) (hd : ∀ H, Pv kvs.length H → Qd H) :
    ∃ W : Nat → Nat → Hp → Prop, (∃ m, W 0 m (upd H1 D (.lst []))) ∧ ∀ i m H, W i m H →
      ((Itk d o kvs).stop i H ∧ Qd H) ∨ ((Itk d o kvs).go i H ∧ ∃ Nx : Hp → Prop, (∀ H', Nx H' → ∃ m', m' < m ∧ W (i + 1) m' H') ∧ ∀ x H', (Itk d o kvs).yld i H x H' → g x (wipe σ vs) H' fun σ2 H2 => wipe σ2 vs = wipe σ vs ∧ tt σ2 H2 fun b H3 =>
        if b = true then te σ2 H3 fun y H4 => ∃ acc, H4 D = some (.lst acc) ∧ acc.length < sizeLine ∧ Nx (upd H4 D (.lst (acc ++ [y]))) else Nx H3) := by
  refine ⟨fun i m H => m = kvs.length - i ∧ i ≤ kvs.length ∧ Pv i H, ⟨_, rfl, Nat.zero_le _, h0⟩, fun i m H ⟨em, hi, p⟩ => ?_⟩
  subst em
  have hf := hl i H hi p
  by_cases hlt : i < kvs.length
  · refine .inr ⟨⟨hf, hlt⟩, Pv (i + 1), fun H' p' => ⟨kvs.length - (i + 1), by omega, rfl, hlt, p'⟩, ?_⟩
    rintro x H' ⟨rfl, k, v, hkv, rfl⟩
    exact hs i k v _ hkv p
  · have e : i = kvs.length := by omega
    subst e
    exact .inl ⟨⟨hf, Nat.le_refl _⟩, hd H p⟩
section
variable {P : Program} {w : World} {K : PySem.W.Frag} {mg : Str → Option Value} {base : Heap}
def nStepsFrom : List Str := ["self", "standing", "after"]
theorem scStepsFrom : FnScope nStepsFrom ["self", "standing"] (defScope sStepsStepsFrom) := ⟨rfl, rfl, rfl, by decide +kernel, rfl, by decide +kernel, by decide +kernel⟩
theorem filter_more {l : List Str} {i : Nat} {x : Str} {p : Str → Bool} (h : l[i]? = some x) : (l.take (i + 1)).filter p = (l.take i).filter p ++ (if p x = true then [x] else []) := by
  rw [take_more h, List.filter_append]
  congr 1
  by_cases q : p x = true
  · rw [if_pos q, List.filter_cons, if_pos q]; rfl
  · rw [if_neg q, List.filter_cons, if_neg q]; rfl
theorem ok_stepsFrom {f CU : Addr} {fd : FuncData} (F : Fun K "steps_from" "Steps.steps_from" sStepsStepsFrom f fd) (OU : ErrOk P w K mg base "Unknown" CU 1 okUnknown fsUnknown) (hT : mg "tuple" = none) :
    FnOk P w K mg base (L2.CX P w) 3 f fd ["self", "standing"] (spStepsFrom K CU) := by
  refine F.okX scStepsFrom (fun vs H Q E h => ?_) (fun cdv A outer s H vs Q E hr h => ?_)
  · obtain ⟨a, C, fA, fS, fF, ss, R, m, b, rfl, _⟩ := h
    rfl
  · obtain ⟨a, C, fA, fS, fF, ss, R, m, b, rfl, kc, ⟨dx, fs, ds, es, ha, l1, l2, l3, l4, S⟩, hsl, hb, k1, k2⟩ := h
    have hu := hu_of hr
    refine ⟨_, pss_cons (ps_if (pt_cmp (pc_dnotin hu (pv 1) (pe_fld (pv 0) rfl))) (pss_one (ps_raise rfl (takes_of rfl rfl rfl rfl) (pmk_err OU hr rfl (pa_cons (pv 1) pa_nil)))) pss_nil)
      (pss_one (ps_ret (pe_callTy call_tuple_of (by rfl) hT (by decide +kernel) (pa_cons (pe_lock (pe_lc (own := [("after", 2)]) (g := gName 2) (tt := tB (tDIn (tVar 2) (tDGet (tFld K (tVar 0) "_steps") (tVar 1)))) rfl scStepsFrom.nd (pi_keys (pe_fld (pv 0) rfl))
        (blkOk_by (N := nStepsFrom) (sc := defScope sStepsStepsFrom) (by decide +kernel)) (fun _ _ _ _ _ => pg_name (i := 2) scStepsFrom.nd rfl (Or.inl rfl))
        (fun _ _ _ _ _ => pts_one (pt_cmp (pc_din hu (pv 2) (pe_dget hu (pe_fld (pv 0) rfl) (pv 1) (fun _ _ => rfl))))) (fun _ _ _ _ _ => pv 2))) pa_nil)))), ?_⟩
    refine ⟨_, rfl, _, rfl, a, C, dx, fs, _, rfl, ha, kc.cls, kc.nS, l1, ds, _, rfl, DGet.k (k := Sum.inr b) S.d, _, rfl, ?_⟩
    rw [dP_is S.nd S.len]
    by_cases hbs : b ∈ ss
    · rw [decide_eq_true hbs]
      refine no rfl ?_
      obtain ⟨i, hi⟩ := List.mem_iff_getElem?.mp hbs
      have hil : i < es.length := by rw [← S.len]; exact (List.getElem?_eq_some_iff.mp hi).1
      obtain ⟨e, he⟩ : ∃ e, es[i]? = some e := ⟨_, List.getElem?_eq_getElem hil⟩
      obtain ⟨kvs, hk, hkl, hkr⟩ := S.at_ i e b he hi
      have nde : ds ≠ e := fun q => S.no (by rw [q]; exact List.mem_of_getElem? he)
      have nad : a ≠ ds := ne_of ha S.d (by intro z; cases z)
      refine ⟨ds, _, S.d, True.intro, fun od => ?_⟩
      refine ⟨_, rfl, a, C, dx, fs, _, rfl, (by rw [upd_ne nad]; exact ha), kc.cls, kc.nS, l1, ds, od, rfl, .inl ⟨_, upd_same, fun D hD => ?_⟩⟩
      have nDs : ds ≠ D := fun q => by rw [← q, upd_same] at hD; cases hD
      have hD0 : H D = none := by rw [upd_ne nDs.symm] at hD; exact hD
      -- what the comprehension keeps
      refine lc_keys (fun j H' => (∀ q o, H q = some o → q ≠ ds → H' q = some o) ∧ H' ds = some (.frz od (.dK (dP ss es))) ∧ H' D = some (.lst (((ss.take j).filter (R b)).map V.str)))
        ⟨fun q o h1 h2 => by rw [upd_ne (ne_of_none h1 hD0), upd_ne h2]; exact h1, by rw [upd_ne nDs, upd_same], upd_same⟩ (fun j H' _ h => h.2.1) ?_ ?_
      · rintro j k v H' hkv ⟨s1, s2, s3⟩
        obtain ⟨z, ez, hz, _, rfl, rfl⟩ := dP_key S.len hkv
        have dg : DGet H' ds (.str b) (some (.ref e)) := .inl ⟨_, Sum.inr b, .inr ⟨od, s2⟩, rfl, (dP_some S.nd hi he).symm⟩
        refine ⟨rfl, _, rfl, _, rfl, a, C, dx, fs, _, rfl, s1 _ _ ha nad, kc.cls, kc.nS, l1, _, rfl, ds, _, rfl, dg, e, _, rfl, DGet.k (k := Sum.inr z) (s1 _ _ hk nde.symm), _, rfl, ?_⟩
        rw [hkr z]
        by_cases hR : R b z = true
        · refine yes hR ⟨_, rfl, _, s3, ?_, fun q o h1 h2 => ?_, by rw [upd_ne nDs]; exact s2, ?_⟩
          · refine small1000 (Nat.le_trans ?_ hsl)
            rw [List.length_map]
            exact Nat.le_trans (List.length_filter_le _ _) (by rw [List.length_take]; omega)
          · rw [upd_ne (ne_of_none h1 hD0)]; exact s1 q o h1 h2
          · rw [upd_same, filter_more hz, if_pos hR, List.map_append]
            rfl
        · have hR' : R b z = false := by simpa using hR
          refine no hR' ⟨s1, s2, ?_⟩
          rw [filter_more hz, if_neg hR, List.append_nil]
          exact s3
      · rintro H' ⟨s1, s2, s3⟩
        rw [dP_len S.len, List.take_length] at s3
        refine ⟨s2, D, _, rfl, .inl ⟨SqL.of (by rw [upd_ne nDs.symm]; exact s3), fun q hq => ?_⟩⟩
        refine k2 hbs q _ (fun p o h1 => ?_) upd_same
        have hpq : p ≠ q := by
          rintro rfl
          by_cases hp : p = ds
          · rw [hp, upd_same] at hq; cases hq
          · rw [upd_ne hp, s1 p o h1 hp] at hq; cases hq
        rw [upd_ne hpq]
        by_cases hp : p = ds
        · subst hp
          rw [upd_same, ← h1, S.d]
        · rw [upd_ne hp]
          exact s1 p o h1 hp
    · rw [decide_eq_false hbs]
      exact yes rfl ⟨_, rfl, err_read rfl (by decide) ⟨b, rfl, hb⟩ (k1 hbs)⟩
end
end Yd
namespace Yd
open PySem L2
/-! ### a dict comprehension over a list -/
theorem dc_list {K : PySem.W.Frag} {a : Addr} {xs : List V} {g : TG} {tt : TT} {tk tv : TE} {vs : List Nat} {σ : St} {H1 : Hp} {D : Addr} {Qd : Hp → Prop} (Pv : Nat → Hp → Prop) (h0 : Pv 0 (upd H1 D (.dK []))) (hl : ∀ i H, i ≤ xs.length → Pv i H → SqL K H a xs)
    (hs : ∀ i x H, xs[i]? = some x → Pv i H → g x (wipe σ vs) H fun σ2 H2 => wipe σ2 vs = wipe σ vs ∧ tt σ2 H2 fun b H3 =>
      if b = true then tk σ2 H3 fun y H4 => tv σ2 H4 fun z H5 => ∃ kvs k, y = kV k ∧ H5 D = some (.dK kvs) ∧ kvs.length < sizeLine ∧ Pv (i + 1) (upd H5 D (.dK (putK kvs k z))) else Pv (i + 1) H3) (hd : ∀ H, Pv xs.length H → Qd H) :
    ∃ W : Nat → Nat → Hp → Prop, (∃ m, W 0 m (upd H1 D (.dK []))) ∧ ∀ i m H, W i m H →
      ((Itl K a).stop i H ∧ Qd H) ∨ ((Itl K a).go i H ∧ ∃ Nx : Hp → Prop, (∀ H', Nx H' → ∃ m', m' < m ∧ W (i + 1) m' H') ∧ ∀ x H', (Itl K a).yld i H x H' → g x (wipe σ vs) H' fun σ2 H2 => wipe σ2 vs = wipe σ vs ∧ tt σ2 H2 fun b H3 =>
        if b = true then tk σ2 H3 fun y H4 => tv σ2 H4 fun z H5 => ∃ kvs k, y = kV k ∧ H5 D = some (.dK kvs) ∧ kvs.length < sizeLine ∧ Nx (upd H5 D (.dK (putK kvs k z))) else Nx H3) := by
  refine ⟨fun i m H => m = xs.length - i ∧ i ≤ xs.length ∧ Pv i H, ⟨_, rfl, Nat.zero_le _, h0⟩, fun i m H ⟨em, hi, p⟩ => ?_⟩
  subst em
  have q := hl i H hi p
  by_cases hlt : i < xs.length
  · refine .inr ⟨⟨xs, xs[i], q, by simp [hlt]⟩, Pv (i + 1), fun H' p' => ⟨xs.length - (i + 1), by omega, rfl, hlt, p'⟩, fun x H' y => ?_⟩
    obtain ⟨e, y⟩ := y
    subst e
    exact hs i x _ (y xs q) p
  · have e : i = xs.length := by omega
    subst e
    exact .inl ⟨⟨xs, q, by simp⟩, hd H p⟩
/-! ### the class Doors: its dict of doors -/
/-- at dd the dict of the doors of the standings ss: at ts the pairs, ng what they need and give -/
structure DoorsAt (H : Hp) (dd : Addr) (ss : List Str) (ts : List Addr) (ng : List (List Str × List Str)) : Prop where
  d : H dd = some (.dK (dP ss ts))
  len : ss.length = ts.length
  nd : ss.Nodup
  ln : ng.length = ss.length
  at_ : ∀ (i : Nat) (t : Addr) (p : List Str × List Str), ts[i]? = some t → ng[i]? = some p → ∃ n g, H t = some (.tup [.ref n, .ref g]) ∧ H n = some (.tup (p.1.map V.str)) ∧ H g = some (.tup (p.2.map V.str))
def spDoorsInit (K : PySem.W.Frag) : Sp := fun vs H Q _ => ∃ (a C dx : Addr) (fs : List (Str × V)) (l : Addr) (ss : List Str), vs = [.ref a, .ref l] ∧ H a = some (.ins C dx fs) ∧ fs.length ≤ 900 ∧ Cls K C ∧ NoAttr K C "_doors" ∧
  TxS K H l ss ∧ ss.length ≤ 1000 ∧ ss.Nodup ∧
  (∀ dd ts H', H dd = none → Gro a H H' → H' a = some (.ins C dx (putF "_doors" (.ref dd) fs)) → DoorsAt H' dd ss ts (ss.map fun _ => ([], [])) → Q .non H')
section
variable {P : Program} {w : World} {K : PySem.W.Frag} {mg : Str → Option Value} {base : Heap}
def nDoorsInit : List Str := ["self", "standings", "standing"]
theorem scDoorsInit : FnScope nDoorsInit ["self", "standings"] (defScope sDoorsInit) := ⟨rfl, rfl, rfl, by decide +kernel, rfl, by decide +kernel, by decide +kernel⟩
theorem ok_doorsInit {f : Addr} {fd : FuncData} (F : Fun K "__init__" "Doors.__init__" sDoorsInit f fd) : FnOk P w K mg base CX0 1 f fd ["self", "standings"] (spDoorsInit K) := by
  refine F.ok scDoorsInit (fun vs H Q E h => ?_) (fun cdv A outer s H vs Q E hr h => ?_)
  · obtain ⟨a, C, dx, fs, l, ss, rfl, _⟩ := h
    rfl
  · obtain ⟨a, C, dx, fs, l, ss, rfl, ha, hfs, cls, nD, hl, hsl, hnd, k⟩ := h
    rcases hl with hl | hl
    · refine ⟨_, pss_one (ps_fld (pv 0) (pe_dc (own := [("standing", 2)]) (g := gName 2) (tt := tYes) rfl scDoorsInit.nd (pi_list (pv 1)) (blkOk_by (N := nDoorsInit) (sc := defScope sDoorsInit) (by decide +kernel))
        (fun _ _ _ _ _ => pg_name (i := 2) scDoorsInit.nd rfl (Or.inl rfl)) (fun _ _ _ _ _ => pts_nil) (fun _ _ _ _ _ => pv 2) (fun _ _ _ _ _ => pe_tup (pa_cons (pe_tup pa_nil) (pa_cons (pe_tup pa_nil) pa_nil)))) rfl), ?_⟩
      refine ⟨_, rfl, l, rfl, ⟨_, hl⟩, fun D hD => ?_⟩
      have naD : a ≠ D := ne_of_none ha hD
      have grow : ∀ H' : Hp, Same H H' → SqL K H' l (ss.map V.str) := fun H' g => g.seq hl
      refine dc_list (K := K) (a := l) (xs := ss.map V.str) (fun i H' => Same H H' ∧ ∃ ts : List Addr, DoorsAt H' D (ss.take i) ts ((ss.take i).map fun _ => ([], [])))
        ⟨fun b o q => by rw [upd_ne (ne_of_none q hD)]; exact q, [], ⟨by rw [upd_same]; rfl, rfl, List.nodup_nil, rfl, fun i t p h => by simp at h⟩⟩ (fun i H' _ h => grow H' h.1) ?_ ?_
      · rintro i x H' hi ⟨s5, ts, S⟩
        obtain ⟨z, hz, rfl⟩ := get_strs hi
        have hm : z ∉ ss.take i := fun q => by
          obtain ⟨j, hj⟩ := List.mem_iff_getElem?.mp q
          have hji : j < i := by
            have := (List.getElem?_eq_some_iff.mp hj).1
            rw [List.length_take] at this
            omega
          rw [List.getElem?_take_of_lt hji] at hj
          exact absurd (nd_ix hnd hj hz) (by omega)
        refine ⟨rfl, _, rfl, (by show 0 ≤ sizeLine; omega), fun n hn => ⟨(by show 0 ≤ sizeLine; omega), fun g hg => ⟨(by show 2 ≤ sizeLine; decide), fun t ht => ?_⟩⟩⟩
        have n1 : D ≠ n := ne_of_none S.d hn
        have n2 : D ≠ g := ne_of_none (by rw [upd_ne n1]; exact S.d) hg
        have n3 : D ≠ t := ne_of_none (by rw [upd_ne n2, upd_ne n1]; exact S.d) ht
        have n4 : n ≠ g := ne_of_none upd_same hg
        have n5 : n ≠ t := ne_of_none (by rw [upd_ne n4, upd_same]) ht
        have n6 : g ≠ t := ne_of_none upd_same ht
        have old : ∀ b o, H' b = some o → b ≠ n ∧ b ≠ g ∧ b ≠ t := fun b o q => by
          have m1 := ne_of_none q hn
          have m2 : b ≠ g := ne_of_none (by rw [upd_ne m1]; exact q) hg
          exact ⟨m1, m2, ne_of_none (by rw [upd_ne m2, upd_ne m1]; exact q) ht⟩
        refine ⟨dP (ss.take i) ts, Sum.inr z, rfl, by rw [upd_ne n3, upd_ne n2, upd_ne n1]; exact S.d, small1000 (by rw [dP_len S.len, List.length_take]; omega), ?_⟩
        refine ⟨fun b o q => ?_, ts ++ [t], ⟨?_, by rw [take_more hz, List.length_append, List.length_append, S.len]; rfl, by rw [take_more hz]; exact nd_snoc S.nd hm, by rw [List.length_map], fun j c p h1 h2 => ?_⟩⟩
        · have q5 := s5 b o q
          obtain ⟨m1, m2, m3⟩ := old b o q5
          rw [upd_ne (ne_of_none q hD), upd_ne m3, upd_ne m2, upd_ne m1]
          exact q5
        · rw [upd_same, take_more hz, dP_snoc S.len, putK_new _ (dP_none hm)]
        · by_cases hj : j < ts.length
          · rw [List.getElem?_append_left hj] at h1
            have h2' : ((ss.take i).map fun _ => (([], []) : List Str × List Str))[j]? = some p := by
              rw [take_more hz, List.map_append, List.getElem?_append_left (by rw [List.length_map, S.len]; exact hj)] at h2
              exact h2
            obtain ⟨n', g', q1, q2, q3⟩ := S.at_ j c p h1 h2'
            have up : ∀ b o, H' b = some o → b ≠ D → upd (upd (upd (upd H' n (.tup [])) g (.tup [])) t (.tup [.ref n, .ref g])) D (.dK (putK (dP (ss.take i) ts) (Sum.inr z) (.ref t))) b = some o := fun b o q nb => by
              obtain ⟨m1, m2, m3⟩ := old b o q
              rw [upd_ne nb, upd_ne m3, upd_ne m2, upd_ne m1]
              exact q
            exact ⟨n', g', up _ _ q1 (ne_of q1 S.d (by intro z; cases z)), up _ _ q2 (ne_of q2 S.d (by intro z; cases z)), up _ _ q3 (ne_of q3 S.d (by intro z; cases z))⟩
          · rw [List.getElem?_append_right (by omega)] at h1
            have hj0 : j - ts.length = 0 := by
              have := (List.getElem?_eq_some_iff.mp h1).1
              simp at this
              omega
            rw [hj0] at h1
            have hc : t = c := Option.some.inj h1
            subst hc
            have hp : p = ([], []) := by
              obtain ⟨u, hu, e⟩ := List.mem_map.mp (List.mem_of_getElem? h2)
              exact e.symm
            subst hp
            exact ⟨n, g, by rw [upd_ne n3.symm, upd_same], by rw [upd_ne n1.symm, upd_ne n5, upd_ne n4, upd_same]; rfl, by rw [upd_ne n2.symm, upd_ne n6, upd_same]; rfl⟩
      · rintro H' ⟨s5, ts, S⟩
        rw [List.length_map, List.take_length] at S
        refine ⟨_, rfl, a, C, dx, fs, rfl, s5 _ _ ha, cls, nD, by omega, ?_⟩
        refine k D ts _ hD (fun b o q n => by rw [upd_ne n]; exact s5 b o q) upd_same ⟨by rw [upd_ne naD.symm]; exact S.d, S.len, S.nd, S.ln, fun i t p h1 h2 => ?_⟩
        obtain ⟨n, g, q1, q2, q3⟩ := S.at_ i t p h1 h2
        have na : ∀ b xs, H' b = some (.tup xs) → b ≠ a := fun b xs q => ne_of q (s5 _ _ ha) (by intro z; cases z)
        exact ⟨n, g, by rw [upd_ne (na _ _ q1)]; exact q1, by rw [upd_ne (na _ _ q2)]; exact q2, by rw [upd_ne (na _ _ q3)]; exact q3⟩
    · refine ⟨_, pss_one (ps_fld (pv 0) (pe_dc (own := [("standing", 2)]) (g := gName 2) (tt := tYes) rfl scDoorsInit.nd (pi_tup (pv 1)) (blkOk_by (N := nDoorsInit) (sc := defScope sDoorsInit) (by decide +kernel))
        (fun _ _ _ _ _ => pg_name (i := 2) scDoorsInit.nd rfl (Or.inl rfl)) (fun _ _ _ _ _ => pts_nil) (fun _ _ _ _ _ => pv 2) (fun _ _ _ _ _ => pe_tup (pa_cons (pe_tup pa_nil) (pa_cons (pe_tup pa_nil) pa_nil)))) rfl), ?_⟩
      refine ⟨_, rfl, l, rfl, ⟨_, hl⟩, fun D hD => ?_⟩
      have naD : a ≠ D := ne_of_none ha hD
      have grow : ∀ H' : Hp, Same H H' → SqT K H' l (ss.map V.str) := fun H' g => Yd.Same.seqT g hl
      refine dc_tup (K := K) (a := l) (xs := ss.map V.str) (fun i H' => Same H H' ∧ ∃ ts : List Addr, DoorsAt H' D (ss.take i) ts ((ss.take i).map fun _ => ([], [])))
        ⟨fun b o q => by rw [upd_ne (ne_of_none q hD)]; exact q, [], ⟨by rw [upd_same]; rfl, rfl, List.nodup_nil, rfl, fun i t p h => by simp at h⟩⟩ (fun i H' _ h => grow H' h.1) ?_ ?_
      · rintro i x H' hi ⟨s5, ts, S⟩
        obtain ⟨z, hz, rfl⟩ := get_strs hi
        have hm : z ∉ ss.take i := fun q => by
          obtain ⟨j, hj⟩ := List.mem_iff_getElem?.mp q
          have hji : j < i := by
            have := (List.getElem?_eq_some_iff.mp hj).1
            rw [List.length_take] at this
            omega
          rw [List.getElem?_take_of_lt hji] at hj
          exact absurd (nd_ix hnd hj hz) (by omega)
        refine ⟨rfl, _, rfl, (by show 0 ≤ sizeLine; omega), fun n hn => ⟨(by show 0 ≤ sizeLine; omega), fun g hg => ⟨(by show 2 ≤ sizeLine; decide), fun t ht => ?_⟩⟩⟩
        have n1 : D ≠ n := ne_of_none S.d hn
        have n2 : D ≠ g := ne_of_none (by rw [upd_ne n1]; exact S.d) hg
        have n3 : D ≠ t := ne_of_none (by rw [upd_ne n2, upd_ne n1]; exact S.d) ht
        have n4 : n ≠ g := ne_of_none upd_same hg
        have n5 : n ≠ t := ne_of_none (by rw [upd_ne n4, upd_same]) ht
        have n6 : g ≠ t := ne_of_none upd_same ht
        have old : ∀ b o, H' b = some o → b ≠ n ∧ b ≠ g ∧ b ≠ t := fun b o q => by
          have m1 := ne_of_none q hn
          have m2 : b ≠ g := ne_of_none (by rw [upd_ne m1]; exact q) hg
          exact ⟨m1, m2, ne_of_none (by rw [upd_ne m2, upd_ne m1]; exact q) ht⟩
        refine ⟨dP (ss.take i) ts, Sum.inr z, rfl, by rw [upd_ne n3, upd_ne n2, upd_ne n1]; exact S.d, small1000 (by rw [dP_len S.len, List.length_take]; omega), ?_⟩
        refine ⟨fun b o q => ?_, ts ++ [t], ⟨?_, by rw [take_more hz, List.length_append, List.length_append, S.len]; rfl, by rw [take_more hz]; exact nd_snoc S.nd hm, by rw [List.length_map], fun j c p h1 h2 => ?_⟩⟩
        · have q5 := s5 b o q
          obtain ⟨m1, m2, m3⟩ := old b o q5
          rw [upd_ne (ne_of_none q hD), upd_ne m3, upd_ne m2, upd_ne m1]
          exact q5
        · rw [upd_same, take_more hz, dP_snoc S.len, putK_new _ (dP_none hm)]
        · by_cases hj : j < ts.length
          · rw [List.getElem?_append_left hj] at h1
            have h2' : ((ss.take i).map fun _ => (([], []) : List Str × List Str))[j]? = some p := by
              rw [take_more hz, List.map_append, List.getElem?_append_left (by rw [List.length_map, S.len]; exact hj)] at h2
              exact h2
            obtain ⟨n', g', q1, q2, q3⟩ := S.at_ j c p h1 h2'
            have up : ∀ b o, H' b = some o → b ≠ D → upd (upd (upd (upd H' n (.tup [])) g (.tup [])) t (.tup [.ref n, .ref g])) D (.dK (putK (dP (ss.take i) ts) (Sum.inr z) (.ref t))) b = some o := fun b o q nb => by
              obtain ⟨m1, m2, m3⟩ := old b o q
              rw [upd_ne nb, upd_ne m3, upd_ne m2, upd_ne m1]
              exact q
            exact ⟨n', g', up _ _ q1 (ne_of q1 S.d (by intro z; cases z)), up _ _ q2 (ne_of q2 S.d (by intro z; cases z)), up _ _ q3 (ne_of q3 S.d (by intro z; cases z))⟩
          · rw [List.getElem?_append_right (by omega)] at h1
            have hj0 : j - ts.length = 0 := by
              have := (List.getElem?_eq_some_iff.mp h1).1
              simp at this
              omega
            rw [hj0] at h1
            have hc : t = c := Option.some.inj h1
            subst hc
            have hp : p = ([], []) := by
              obtain ⟨u, hu, e⟩ := List.mem_map.mp (List.mem_of_getElem? h2)
              exact e.symm
            subst hp
            exact ⟨n, g, by rw [upd_ne n3.symm, upd_same], by rw [upd_ne n1.symm, upd_ne n5, upd_ne n4, upd_same]; rfl, by rw [upd_ne n2.symm, upd_ne n6, upd_same]; rfl⟩
      · rintro H' ⟨s5, ts, S⟩
        rw [List.length_map, List.take_length] at S
        refine ⟨_, rfl, a, C, dx, fs, rfl, s5 _ _ ha, cls, nD, by omega, ?_⟩
        refine k D ts _ hD (fun b o q n => by rw [upd_ne n]; exact s5 b o q) upd_same ⟨by rw [upd_ne naD.symm]; exact S.d, S.len, S.nd, S.ln, fun i t p h1 h2 => ?_⟩
        obtain ⟨n, g, q1, q2, q3⟩ := S.at_ i t p h1 h2
        have na : ∀ b xs, H' b = some (.tup xs) → b ≠ a := fun b xs q => ne_of q (s5 _ _ ha) (by intro z; cases z)
        exact ⟨n, g, by rw [upd_ne (na _ _ q1)]; exact q1, by rw [upd_ne (na _ _ q2)]; exact q2, by rw [upd_ne (na _ _ q3)]; exact q3⟩
end
end Yd
namespace Yd
open PySem L2
/-! ### Part, Single, Many: how they are made -/
/-- the def m of the class named x, read off that class -/
structure ClsFn (K : PySem.W.Frag) (mg : Str → Option Value) (x : Str) (C : Addr) (m : Str) (f : Addr) : Prop where
  g : mg x = some (.ref C)
  r : ∃ mc, ClX.CRead K C mc ∧ PySem.W.findCls K (.ref C) mc m = some (.val (.ref f))
/-- a part's attributes -/
def fsPart (nm : Str) (ds dd : Addr) : List (Str × V) := putF "name" (.str nm) (putF "_doors" (.ref dd) (putF "_steps" (.ref ds) []))
structure PartC (K : PySem.W.Frag) (C : Addr) : Prop where
  cls : Cls K C
  nS : NoAttr K C "_steps"
  nD : NoAttr K C "_doors"
  nN : NoAttr K C "name"
def spPartInit (K : PySem.W.Frag) (CR : Addr) : Sp := fun vs H Q E => ∃ (a C dx : Addr) (nm : Str) (l : Addr) (ss : List Str), vs = [.ref a, .str nm, .ref l] ∧ H a = some (.ins C dx []) ∧ PartC K C ∧
  TxS K H l ss ∧ ss.length ≤ 1000 ∧ (∀ s ∈ ss, s.length ≤ 100) ∧
  (∀ (i : Nat) (s : Str), ss[i]? = some s → s ∈ ss.take i → (ss.take i).Nodup → ∀ d H', Gro a H H' → H d = none → H' d = some (.xd (fsRepeated [.str s])) → E (.ref CR) (some d) H') ∧
  (ss.Nodup → ∀ (ds : Addr) (es : List Addr) (dd : Addr) (ts : List Addr) (H' : Hp), H ds = none → (∀ e ∈ es, H e = none) → H dd = none → Gro a H H' → H' a = some (.ins C dx (fsPart nm ds dd)) → StepsAt H' ds ss es (fun _ _ => false) 0 → DoorsAt H' dd ss ts (ss.map fun _ => ([], [])) → Q .non H')
theorem nodup_take {ss : List Str} (h : ¬ ∃ (i : Nat) (s : Str), ss[i]? = some s ∧ s ∈ ss.take i ∧ (ss.take i).Nodup) : ss.Nodup := by
  have all : ∀ i, i ≤ ss.length → (ss.take i).Nodup := by
    intro i
    induction i with
    | zero => intro _; exact List.nodup_nil
    | succ i ih =>
      intro hi
      have e : ss[i]? = some ss[i] := List.getElem?_eq_getElem (by omega)
      rw [take_more e]
      exact nd_snoc (ih (by omega)) fun m => h ⟨i, _, e, m, ih (by omega)⟩
  have q := all ss.length (Nat.le_refl _)
  rwa [List.take_length] at q
/-- a def that hands on the call of another one: its own end is None -/
theorem part_non {K : PySem.W.Frag} {CR : Addr} {vs : List V} {H : Hp} {Q : VK} {E : XK} (h : spPartInit K CR vs H Q E) : spPartInit K CR vs H (fun _ H' => Q .non H') E := by
  obtain ⟨a, C, dx, nm, l, ss, h1, h2, h3, h4, h5, h6, h7, h8⟩ := h
  exact ⟨a, C, dx, nm, l, ss, h1, h2, h3, h4, h5, h6, h7, h8⟩
section
variable {P : Program} {w : World} {K : PySem.W.Frag} {mg : Str → Option Value} {base : Heap}
theorem scPartInit : FnScope ["self", "name", "standings"] ["self", "name", "standings"] (defScope sPartInit) := ⟨rfl, rfl, rfl, by decide +kernel, rfl, by decide +kernel, by decide +kernel⟩
theorem ok_partInit {f CR CS CD fS fD : Addr} {fd fdS fdD : FuncData} (F : Fun K "__init__" "Part.__init__" sPartInit f fd) (O : ErrOk P w K mg base "Repeated" CR 1 okRepeated fsRepeated)
    (FS : Fun K "__init__" "Steps.__init__" sStepsInit fS fdS) (bS : Binds K fdS ["self", "standings"] []) (cS : ClsFn K mg "Steps" CS "__init__" fS)
    (FD : Fun K "__init__" "Doors.__init__" sDoorsInit fD fdD) (bD : Binds K fdD ["self", "standings"] []) (cD : ClsFn K mg "Doors" CD "__init__" fD) :
    FnOk P w K mg base (L2.CX P w) 4 f fd ["self", "name", "standings"] (spPartInit K CR) := by
  obtain ⟨gS, mcS, rS, vS⟩ := cS
  obtain ⟨gD, mcD, rD, vD⟩ := cD
  have GS : FnOk P w K mg base (L2.CX P w) 3 fS fdS ["self", "standings"] (spStepsInit K CR) := ok_stepsInit FS O
  have GD : FnOk P w K mg base CX0 1 fD fdD ["self", "standings"] (spDoorsInit K) := ok_doorsInit FD
  refine F.okX scPartInit (fun vs H Q E h => ?_) (fun cdv A outer s H vs Q E hr h => ?_)
  · obtain ⟨a, C, dx, nm, l, ss, rfl, _⟩ := h
    rfl
  · obtain ⟨a, C, dx, nm, l, ss, rfl, ha, pc, hl, hsl, hsh, kR, kN⟩ := h
    have hr1 : Room 1 _ := hr.mono (by decide)
    refine ⟨_, pss_cons (ps_expr (pe_cfun (E := E) (pe_glob (v := .ref CS) (by rfl) gS rfl) rS vS GS hr FS.kp bS .nil (passes_call (takes_of rfl rfl rfl rfl) fun _ _ _ _ h => h) (pa_cons (pv 0) (pa_cons (pv 2) pa_nil))))
      (pss_cons (ps_expr (pe_cfun (pe_glob (v := .ref CD) (by rfl) gD rfl) rD vD GD hr1 FD.kp bD .nil pass0 (pa_cons (pv 0) (pa_cons (pv 2) pa_nil))))
      (pss_one (ps_fld (pv 0) (pv 1) rfl))), ?_⟩
    have sq : ∀ H' : Hp, Gro a H H' → TxS K H' l ss := fun H' g => by
      rcases hl with ((h | ⟨o, h⟩) | h) | ((h | ⟨o, h⟩) | h)
      · exact .inl (.inl (.inl (g _ _ h (ne_of h ha (by intro z; cases z)))))
      · exact .inl (.inl (.inr ⟨o, g _ _ h (ne_of h ha (by intro z; cases z))⟩))
      · exact .inl (.inr h)
      · exact .inr (.inl (.inl (g _ _ h (ne_of h ha (by intro z; cases z)))))
      · exact .inr (.inl (.inr ⟨o, g _ _ h (ne_of h ha (by intro z; cases z))⟩))
      · exact .inr (.inr h)
    refine ⟨rfl, _, rfl, _, rfl, a, C, dx, [], l, ss, rfl, ha, Nat.zero_le _, pc.cls, pc.nS, hl, hsl, hsh, kR, fun nd ds es H1 hds hes g1 e1 S1 => ?_⟩
    have l0 : (putF "_steps" (V.ref ds) []).length ≤ 1 := length_putF _ _ _
    have l1 : (putF "_steps" (V.ref ds) []).length ≤ 900 := Nat.le_trans l0 (by decide)
    have l2 : ∀ dd, (putF "_doors" (V.ref dd) (putF "_steps" (V.ref ds) [])).length < 1000 := fun dd => by
      have q := length_putF "_doors" (V.ref dd) (putF "_steps" (V.ref ds) [])
      omega
    refine ⟨rfl, _, rfl, _, rfl, a, C, dx, _, l, ss, rfl, e1, l1, pc.cls, pc.nD, sq H1 g1, hsl, nd, fun dd ts H2 hdd g2 e2 D2 => ?_⟩
    refine ⟨_, rfl, _, rfl, a, C, dx, _, rfl, e2, pc.cls, pc.nN, l2 dd, ?_⟩
    refine kN nd ds es dd ts _ hds hes (g1.free hdd (by rintro rfl; rw [e1] at hdd; cases hdd)) ((g1.trans g2).trans .own) upd_same (S1.keep fun b kvs q => ?_) ⟨?_, D2.len, D2.nd, D2.ln, fun i t p h1 h2 => ?_⟩
    · have nb : b ≠ a := ne_of q e1 (by intro z; cases z)
      rw [upd_ne nb]
      exact g2 b _ q nb
    · rw [upd_ne (ne_of D2.d e2 (by intro z; cases z))]; exact D2.d
    · obtain ⟨n, g, q1, q2, q3⟩ := D2.at_ i t p h1 h2
      have na : ∀ b xs, H2 b = some (.tup xs) → b ≠ a := fun b xs q => ne_of q e2 (by intro z; cases z)
      exact ⟨n, g, by rw [upd_ne (na _ _ q1)]; exact q1, by rw [upd_ne (na _ _ q2)]; exact q2, by rw [upd_ne (na _ _ q3)]; exact q3⟩
theorem scSingleInit : FnScope ["self", "name", "standings"] ["self", "name", "standings"] (defScope sSingleInit) := ⟨rfl, rfl, rfl, by decide +kernel, rfl, by decide +kernel, by decide +kernel⟩
theorem ok_singleInit {f CR CP fP : Addr} {fd fdP : FuncData} (F : Fun K "__init__" "Single.__init__" sSingleInit f fd) (GP : FnOk P w K mg base (L2.CX P w) 4 fP fdP ["self", "name", "standings"] (spPartInit K CR)) (kP : PySem.W.keepIn K (.ref fP) = true)
    (bP : Binds K fdP ["self", "name", "standings"] []) (cP : ClsFn K mg "Part" CP "__init__" fP) : FnOk P w K mg base (L2.CX P w) 5 f fd ["self", "name", "standings"] (spPartInit K CR) := by
  obtain ⟨gP, mcP, rP, vP⟩ := cP
  refine F.okX scSingleInit (fun vs H Q E h => GP.len vs H Q E h) (fun cdv A outer s H vs Q E hr h => ?_)
  have h0 := h
  obtain ⟨a, C, dx, nm, l, ss, rfl, _⟩ := h0
  exact ⟨_, pss_one (ps_expr (pe_cfun (E := E) (pe_glob (v := .ref CP) (by rfl) gP rfl) rP vP GP hr kP bP .nil (passes_call (takes_of rfl rfl rfl rfl) fun _ _ _ _ h => h) (pa_cons (pv 0) (pa_cons (pv 1) (pa_cons (pv 2) pa_nil))))),
    rfl, _, rfl, _, rfl, _, rfl, part_non h⟩
theorem scManyInit : FnScope ["self", "name", "standings"] ["self", "name", "standings"] (defScope sManyInit) := ⟨rfl, rfl, rfl, by decide +kernel, rfl, by decide +kernel, by decide +kernel⟩
theorem ok_manyInit {f CR CP fP : Addr} {fd fdP : FuncData} (F : Fun K "__init__" "Many.__init__" sManyInit f fd) (GP : FnOk P w K mg base (L2.CX P w) 4 fP fdP ["self", "name", "standings"] (spPartInit K CR)) (kP : PySem.W.keepIn K (.ref fP) = true)
    (bP : Binds K fdP ["self", "name", "standings"] []) (cP : ClsFn K mg "Part" CP "__init__" fP) : FnOk P w K mg base (L2.CX P w) 5 f fd ["self", "name", "standings"] (spPartInit K CR) := by
  obtain ⟨gP, mcP, rP, vP⟩ := cP
  refine F.okX scManyInit (fun vs H Q E h => GP.len vs H Q E h) (fun cdv A outer s H vs Q E hr h => ?_)
  have h0 := h
  obtain ⟨a, C, dx, nm, l, ss, rfl, _⟩ := h0
  exact ⟨_, pss_one (ps_expr (pe_cfun (E := E) (pe_glob (v := .ref CP) (by rfl) gP rfl) rP vP GP hr kP bP .nil (passes_call (takes_of rfl rfl rfl rfl) fun _ _ _ _ h => h) (pa_cons (pv 0) (pa_cons (pv 1) (pa_cons (pv 2) pa_nil))))),
    rfl, _, rfl, _, rfl, _, rfl, part_non h⟩
end
end Yd
namespace Yd
open PySem L2
/-! ### an own __iter__ that gives a dict's iterator -/
/-- an iterator over the keys of the locked dict at d, at its start -/
def KIo (d it : Addr) (od : Obj) (n : Nat) : HO := .ext fun h => ∃ es ep, od.data = .dict es ep ∧ h.IsKeyIter it d 0 n ep
/-- the locked dict at d has n keys -/
def Keyed (H : Hp) (d : Addr) (od : Obj) (n : Nat) : Prop := (∃ kvs, H d = some (.frz od (.dK kvs)) ∧ n = kvs.length) ∨ ∃ kvs, H d = some (.frz od (.dT kvs)) ∧ n = kvs.length
/-- a def whose promise may speak of the size of the heap at its entry -/
structure FnN (P : Program) (w : World) (K : PySem.W.Frag) (mg : Str → Option Value) (base : Heap) (k : Nat) (f : Addr) (fd : FuncData) (ps : List Str) (sp : Nat → Sp) : Prop where
  len : ∀ n vs H Q E, sp n vs H Q E → vs.length = ps.length
  run : ∀ (A : Around) (out : List Env) (s : Shared) (H : Hp) (args : Args) (us : List Value) (vs : List V) (Q : VK) (E : XK), Room k A → Env0 P w K mg base A out s H → BindsTo s fd args (ps.zip us) → Vals vs us → sp s.heap.objs.size vs H Q E →
    codeAny (model P w) A (.call (.ref f) args) (CR CX0 out P w H s Q E) s
section
variable {P : Program} {w : World} {K : PySem.W.Frag} {mg : Str → Option Value} {base : Heap}
theorem fun_N {x qual : Str} {st : Stmt} {f : Addr} {fd : FuncData} {N ps : List Str} {k : Nat} {sp : Nat → Sp} (F : Fun K x qual st f fd) (S : FnScope N ps (defScope st)) (len : ∀ n vs H Q E, sp n vs H Q E → vs.length = ps.length)
    (body : ∀ (cdv : Value) (A : Around) (out : List Env) (s : Shared) (H : Hp) (vs : List V) (Q : VK) (E : XK), Room k (A.deeper (PyProof.Rows.envOfC qual (defScope st) s.heap.objs.size f cdv)) → sp s.heap.objs.size vs H Q E →
      ∃ t, PSs (cxOf CX0 P w K mg base N qual (defScope st) f cdv A out s H E) (defBody st) t ∧ t { nx := fun _ H' => Q .non H', rt := Q } (start N vs) H) : FnN P w K mg base (k + 1) f fd ps sp := by
  obtain ⟨oc, od, kV, doc, pm, an, cdv, ct, osl, rfl, lk, hcd⟩ := F.ex
  refine ⟨len, fun A out s H args us vs Q E hr e0 hb r hsp => ?_⟩
  have KX : K.In s.heap := e0.mod.kin.keeps fun b o e => (e0.bs b o e).1
  refine codeAny_call_function hr.depth (KX _ _ lk) rfl S.co S.gen rfl (PySem.W.codeRec_of KX hcd) (hb _ _ _ _ (wpAny_newFunctionEnv_cells S.kind (fun ⟨y, v⟩ hy => ?_) fun env he s1 x => ?_))
  · rcases S.par y (List.of_mem_zip hy).1 with q | q
    · exact Or.inl q
    · exact Or.inr ⟨q, PySem.W.cellsFrom_some _ _ _ (Or.inl q)⟩
  subst he
  obtain ⟨t, ht, hq⟩ := body cdv A out s H vs Q E (hr.deeper _) hsp
  refine ⟨(e0.mod.nolimit.keeps fun b o e => (e0.bs b o e).1).keeps x.toInCall.keep, codeAny_func (wpAny_mono (ht.run [] s1 (start N vs) H _ (inv_start S hr.hd e0 (len _ _ _ _ _ hsp) r x) hq) (fun fl s' hs => ?_) fun _ _ z => z)⟩
  match fl, hs with
  | .ret u, ⟨v, σ', H', J, rv, q⟩ => exact ⟨v, H', J.os, J.bare, J.base, J.hok, rv, q⟩
  | .next, ⟨σ', H', J, q⟩ => exact ⟨V.non, H', J.os, J.bare, J.base, J.hok, rfl, q⟩
  | .brk, ⟨_, _, _, q⟩ => exact q.elim
  | .cont, ⟨_, _, _, q⟩ => exact q.elim
end
section
open PySem.W
variable {X : Cx}
theorem kio_ok {P : Program} {w : World} {H : Hp} {h : Heap} {d it n ep : Nat} {od : Obj} {es : Array DictEntry} (hd : od.data = .dict es ep) (st : h.IsKeyIter it d 0 n ep) : ObjOk P w H h it (KIo d it od n) :=
  ⟨⟨es, ep, hd, st⟩, (let ⟨o, ho, _⟩ := st; ⟨o, ho⟩), fun _ _ ⟨e1, p1, a1, a2⟩ k => ⟨e1, p1, a1, a2.at k⟩⟩
/-- iter(d), d locked: a young iterator -/
theorem call_iterK : CallR X (.builtin "iter") (fun xs H Q => ∃ d od n, xs = [.ref d] ∧ Keyed H d od n ∧ ∀ it, H it = none → X.s_0.heap.objs.size ≤ it → Q (.ref it) (upd H it (KIo d it od n))) := by
  intro pins s σ H xs us Q I r h
  obtain ⟨d, od, n, rfl, hk, q⟩ := h
  obtain ⟨u, rfl, ru⟩ := vals1 r
  cases ru
  obtain ⟨hs, hgd, hx, es, ep, hdt, hsz⟩ : (d == sysModules) = false ∧ s.heap.get? d = some od ∧ od.ExactDict ∧ ∃ es ep, od.data = .dict es ep ∧ es.size = n := by
    rcases hk with ⟨kvs, hd, rfl⟩ | ⟨kvs, hd, rfl⟩
    · obtain ⟨hs, hgd, hx, es, ep, vs, hdt, hsz, kv, hm⟩ := I.frzK hd
      exact ⟨hs, hgd, hx, es, ep, hdt, by rw [hsz, Paired.length kv]⟩
    · obtain ⟨hs, hgd, hx, es, ep, hdt, hsz, _⟩ := I.frzT hd
      exact ⟨hs, hgd, hx, es, ep, hdt, hsz⟩
  refine Calls.call_function_entry (by decide +kernel) (by decide +kernel) kdk_entry_iter (kdk_args_iter _) ?_
  unfold Builtin.«iter»
  refine wpAny_bind (m := someArgs "iter" 1 2 _) (wpAny_of_eq (a := [.ref d]) (by first | rfl | kernel_rfl!) (wpAny_bind (m := pyIter (.ref d)) (iter_keys hs hgd hx hdt ?_)))
  refine wpAny_pure ⟨_, rfl, ?_⟩
  have st : (s.heap.push { cls := .type "dict_keyiterator", data := .fields #[.ref d, .int 0 0, .int es.size 0, .int ep 0] }).IsKeyIter s.heap.objs.size d 0 n ep := ⟨_, Heap.get?_push_size _ rfl, rfl, by rw [hsz]; rfl⟩
  exact ⟨.ref s.heap.objs.size, _, I.laid (t' := s.toks) (fun b ob e => Heap.get?_push_of_some _ e) (Nat.le_refl _) (kio_ok hdt st), rfl, q _ (I.hok.fresh (Nat.le_refl _)) I.sz⟩
/-- for x in o, o an instance whose class has such an __iter__ -/
def iOwn (sp : Nat → Sp) (C : Addr) (te : TE) : TI := fun σ H R => te σ H fun x H1 => ∃ a dx fs, x = .ref a ∧ H1 a = some (.ins C dx fs) ∧ ∀ n, sp n [.ref a] H1 (fun v H2 => ∃ it d od m, v = .ref it ∧ n ≤ it ∧ H2 it = some (KIo d it od m) ∧
  ((∃ kvs, H2 d = some (.frz od (.dK kvs)) ∧ m = kvs.length ∧ R (Itk d od kvs) (ItX.dropH H2 it)) ∨ ∃ kvs, H2 d = some (.frz od (.dT kvs)) ∧ m = kvs.length ∧ R (Itkt d od kvs) (ItX.dropH H2 it))) (fun _ _ _ => False)
theorem pi_own {C f : Addr} {fd : FuncData} {k : Nat} {sp : Nat → Sp} {tg e : Expr} {te : TE} (he : PE X e te) (hi : findIn X.K (.ref C) "__iter__" = some (some (.ref f))) (hf : isFn X.K (.ref f) = true) (F : FnN X.prog X.w X.K X.mg X.base k f fd ["self"] sp) (hr : Room k X.A)
    (hb : Binds X.K fd ["self"] []) : PI X tg e (iOwn sp C te) := by
  refine ⟨fun pins s σ H R I h => thn (he.run pins s σ H _ I h) fun u s1 ⟨x, H1, I1, rx, a, dx, fs, ex, ha, q⟩ => ?_⟩
  subst ex
  obtain rfl : u = Value.ref a := rx
  obtain ⟨m, hF⟩ := I1.fr
  obtain ⟨mA, O, _⟩ := ins_get I1.hok ha
  obtain ⟨oa, J, _⟩ := O.look
  have b1 := hb s1 [.ref a] I1.kIn rfl
  refine owit_iter hF I1.ok.mod.kin J hi hf (wpAny_call (codeAny_mono (F.run X.A X.stack s1 H1 ⟨[.ref a], []⟩ [.ref a] [.ref a] _ (fun _ _ _ => False) hr I1.env0 b1 (.cons rfl .nil) (q s1.heap.objs.size)) fun r s' hq => ?_))
  match r, hq with
  | .ok (.ret u), hq =>
    obtain ⟨v, H2, I2, rv, it, d, od, n, rfl, hn, e2, hR⟩ := I1.after hq
    obtain rfl : u = Value.ref it := rv
    have young : X.s_0.heap.objs.size ≤ it := Nat.le_trans I1.sz hn
    obtain ⟨⟨es, ep, hd, st⟩, _⟩ := (show ObjOk X.prog X.w H2 s'.heap it (KIo d it od n) from I2.hok it _ e2)
    have hT : s'.TypeIs (.ref it) "dict_keyiterator" := let ⟨o, ho, hc, _⟩ := st; ⟨o, ho, hc⟩
    have e2' := e2
    unfold KIo at e2'
    refine wpAny_specialOf hT PySem.F.slot_dict_keyiterator_next.lookup ?_
    rcases hR with ⟨kvs, ed, rfl, hR⟩ | ⟨kvs, ed, rfl, hR⟩
    · exact ⟨it, [it], _, _, _, rfl, ItX.inv_drop I2 e2', turn_keys it hd, st, fun b hb => by rw [List.mem_singleton.mp hb]; exact ItX.inv_fp I2 e2 young, hR⟩
    · exact ⟨it, [it], _, _, _, rfl, ItX.inv_drop I2 e2', turn_keysT it hd, st, fun b hb => by rw [List.mem_singleton.mp hb]; exact ItX.inv_fp I2 e2 young, hR⟩
end
end Yd
namespace Yd
open PySem L2
/-! ### own __getitem__ and __setitem__ -/
section
open PySem.W
theorem deeper1 {P : Program} {w : World} {K : Frag} {mg : Str → Option Value} {base : Heap} {A : Around} {out : List Env} {s : Shared} {H : Hp} (e : Env0 P w K mg base A out s H) : Env0 P w K mg base A.in1 out s H :=
  ⟨by exact e.frames, e.mod, e.bs, e.bsz, e.funs, e.frf, e.hok, e.bare⟩
theorem at_all {CX : CXT} {X : Cx} {E : XK} (h : Passes CX X E) : ∀ σ : St, PassesAt CX X σ E := fun σ pins H s e s' I c => h pins σ H s e s' I c
variable {X : Cx} {CX : CXT} {k : Nat} {f C : Addr} {fd : FuncData} {ps : List Str} {sp : Sp} {E : St → XK} {pos : Pos} {o i : Expr} {to ti : TE}
/-- a call of a def one level down -/
theorem run_in1 {pins : List (Addr × Obj)} {σ : St} {H : Hp} {s : Shared} {Q : VK} {us : List Value} {vs : List V} (F : FnOk X.prog X.w X.K X.mg X.base CX k f fd ps sp) (hr : Room (k + 1) X.A) (hb : Binds X.K fd ps []) (hx : PassesAt CX X σ (E σ))
    (I : Inv X pins σ H s) (r : Vals vs us) (h : sp vs H Q (E σ)) : wpAny (model X.prog X.w) X.A.in1 (call (.ref f) us) (EP X pins σ Q) X.xe s := by
  have hl : (us ++ []).length = ps.length := by rw [List.append_nil, ← r.length]; exact F.len _ _ _ _ h
  have b := hb s us I.kIn hl
  rw [List.append_nil] at b
  refine wpAny_call (codeAny_mono (F.run X.A.in1 X.stack s H ⟨us, []⟩ us vs Q (E σ) hr.in1 (deeper1 I.env0) b r h) fun r s' hq => ?_)
  match r, hq with
  | .error e, hq => exact hx pins H s e s' I hq
  | .ok (.ret u), hq => exact I.after hq
/-- an own class whose items are read by a def of its own -/
structure ItemC (K : Frag) (C : Addr) (m : Str) (f : Addr) : Prop where
  at_ : findIn K (.ref C) m = some (some (.ref f))
  fn : isFn K (.ref f) = true
  fi : fnIn K f = true
  noq : noSeq K C = true
def tSubO (C : Addr) (sp : Sp) (E : St → XK) (to ti : TE) : TE := fun σ H Q => to σ H fun x H1 => ti σ H1 fun y H2 => ∃ a dx fs, x = .ref a ∧ H2 a = some (.ins C dx fs) ∧ sp [x, y] H2 Q (E σ)
theorem pe_subO (ho : PE X o to) (hi : PE X i ti) (c : ItemC X.K C "__getitem__" f) (F : FnOk X.prog X.w X.K X.mg X.base CX k f fd ps sp) (hr : Room (k + 1) X.A) (hb : Binds X.K fd ps []) (hx : ∀ σ, PassesAt CX X σ (E σ))
    (hsl : ∀ x i', subscripted i true (.ref x) i' = runValue (.builtin "lifetime.subscript" ⟨[.ref x, i'], []⟩) := by intro _ _; with_unfolding_all rfl) : PE X (.Subscript o i pos) (tSubO C sp E to ti) := by
  refine ⟨fun pins s σ H Q I h => PyProof.Rows.Subscript_ (binT (R := fun x y H2 => ∃ a dx fs, x = V.ref a ∧ H2 a = some (.ins C dx fs) ∧ sp [x, y] H2 Q (E σ)) ho hi I h fun v u s2 x y H2 I2 rx ry hq => ?_)⟩
  obtain ⟨a, dx, fs, rfl, ha, q⟩ := hq
  obtain rfl : v = Value.ref a := rx
  obtain ⟨m, hF⟩ := I2.fr
  obtain ⟨mA, O, _⟩ := ins_get I2.hok ha
  obtain ⟨oa, J, _⟩ := O.look
  exact sub_K hF I2.ok.mod.kin J c.at_ c.fi c.fn (run_in1 F hr hb (hx σ) I2 (Paired.cons (a := V.ref a) rfl (.cons ry .nil)) q) (hsl a u)
def gSubO (C : Addr) (sp : Sp) (E : St → XK) (to ti : TE) : TG := fun v σ H Q => to σ H fun x H1 => ti σ H1 fun y H2 => ∃ a dx fs, x = .ref a ∧ H2 a = some (.ins C dx fs) ∧ sp [x, y, v] H2 (fun _ H3 => Q σ H3) (E σ)
theorem pg_subO (ho : PE X o to) (hi : PE X i ti) (c : ItemC X.K C "__setitem__" f) (F : FnOk X.prog X.w X.K X.mg X.base CX k f fd ps sp) (hr : Room k X.A) (hb : Binds X.K fd ps []) (hx : ∀ σ, PassesAt CX X σ (E σ))
    (ha : ∀ v, assign (.Subscript o i pos) X.env v = (do
      let ov ← holding [v] (eval o X.env)
      let iv ← holding [v, ov] (eval i X.env)
      standAt pos
      holding [v, ov, iv] (setItem ov iv v)
      release [v, ov, iv] []) := by intro _; rfl) : PG X (.Subscript o i pos) (gSubO C sp E to ti) := by
  refine ⟨fun pins s σ H v u Q I r h => ?_⟩
  rw [ha]
  refine wpAny_bind (wpAny_holding (thn (ho.run pins s σ H _ I h) fun ov s1 ⟨x, H1, I1, r1, q1⟩ => wpAny_bind (wpAny_holding (thn (hi.run pins s1 σ H1 _ I1 q1) fun iv s2 ⟨y, H2, I2, r2, a, dx, fs, ex, e2, q2⟩ => ?_))))
  subst ex
  obtain rfl : ov = Value.ref a := r1
  obtain ⟨m, hF⟩ := I2.fr
  obtain ⟨mA, O, _⟩ := ins_get I2.hok e2
  obtain ⟨oa, J, _⟩ := O.look
  refine wpAny_bind (wpAny_standAt (wpAny_bind (wpAny_holding (ksp_setItem hF I2.ok.mod.kin J c.noq c.at_ c.fn (thn (run_fnS F hr hb (hx σ) I2 (Paired.cons (a := V.ref a) rfl (.cons r2 (.cons r .nil))) q2) fun _ s3 ⟨_, H3, I3, _, q3⟩ => wpAny_release ⟨σ, H3, I3, q3⟩)))))
end
end Yd
namespace Yd
open PySem L2
/-! ### own __contains__, __len__, operators and comparisons -/
section
open PySem.W
variable {X : Cx} {CX : CXT} {k : Nat} {f C : Addr} {fd : FuncData} {ps : List Str} {sp : Sp} {E : XK}
/-- the def m of the class at C -/
structure OpC (K : Frag) (C : Addr) (m : Str) (f : Addr) : Prop where
  at_ : findIn K (.ref C) m = some (some (.ref f))
  fn : isFn K (.ref f) = true
/-- x in o -/
def rOwnIn (C : Addr) (sp : Sp) (E : XK) (yes : Bool) : R2 := fun x y H Q => ∃ a dx fs, y = .ref a ∧ H a = some (.ins C dx fs) ∧ sp [y, x] H (fun v H' => ∃ b, v = .bl b ∧ Q (.bl (b == yes)) H') E
theorem op_inO (c : OpC X.K C "__contains__" f) (F : FnOk X.prog X.w X.K X.mg X.base CX k f fd ps sp) (hr : Room k X.A) (hb : Binds X.K fd ps []) (hx : Passes CX X E) : OpR X (compareOp .In) (rOwnIn C sp E true) := by
  intro pins s σ H x y v u Q I rx ry h
  obtain ⟨a, dx, fs, rfl, ha, q⟩ := h
  obtain rfl : u = Value.ref a := ry
  obtain ⟨m, hF⟩ := I.fr
  obtain ⟨mA, O, _⟩ := ins_get I.hok ha
  obtain ⟨oa, J, _⟩ := O.look
  refine in_K hF I.ok.mod.kin J c.at_ c.fn (thn (run_fn (us := [.ref a, v]) (vs := [.ref a, x]) F hr hb .nil hx I (.cons rfl (.cons rx .nil)) q) fun r s1 ⟨z, H1, I1, rz, b, ez, q1⟩ => ?_)
  subst ez
  obtain rfl : r = Value.bool b := rz
  refine wpAny_truthy_bool ⟨.bl b, H1, I1, rfl, ?_⟩
  rw [show (b == true) = b by cases b <;> rfl] at q1
  exact q1
theorem op_notInO (c : OpC X.K C "__contains__" f) (F : FnOk X.prog X.w X.K X.mg X.base CX k f fd ps sp) (hr : Room k X.A) (hb : Binds X.K fd ps []) (hx : Passes CX X E) : OpR X (compareOp .NotIn) (rOwnIn C sp E false) := by
  intro pins s σ H x y v u Q I rx ry h
  obtain ⟨a, dx, fs, rfl, ha, q⟩ := h
  obtain rfl : u = Value.ref a := ry
  obtain ⟨m, hF⟩ := I.fr
  obtain ⟨mA, O, _⟩ := ins_get I.hok ha
  obtain ⟨oa, J, _⟩ := O.look
  refine notIn_K hF I.ok.mod.kin J c.at_ c.fn (thn (run_fn (us := [.ref a, v]) (vs := [.ref a, x]) F hr hb .nil hx I (.cons rfl (.cons rx .nil)) q) fun r s1 ⟨z, H1, I1, rz, b, ez, q1⟩ => ?_)
  subst ez
  obtain rfl : r = Value.bool b := rz
  refine wpAny_truthy_bool ⟨.bl (!b), H1, I1, rfl, ?_⟩
  rw [show (b == false) = !b by cases b <;> rfl] at q1
  exact q1
/-- len(o) -/
def rOwnLen (C : Addr) (sp : Sp) (E : XK) : List V → Hp → VK → Prop := fun xs H Q => ∃ a dx fs, xs = [.ref a] ∧ H a = some (.ins C dx fs) ∧ sp [.ref a] H (fun v H' => ∃ n : Nat, v = .int n ∧ n ≤ sizeLine ∧ Q (.int n) H') E
theorem call_lenO (c : OpC X.K C "__len__" f) (F : FnOk X.prog X.w X.K X.mg X.base CX k f fd ps sp) (hr : Room (k + 1) X.A) (hb : Binds X.K fd ps []) (hx : Passes CX X E) : CallR X (.builtin "len") (rOwnLen C sp E) := by
  intro pins s σ H xs us Q I r h
  obtain ⟨a, dx, fs, rfl, ha, q⟩ := h
  obtain ⟨u, rfl, ru⟩ := vals1 r
  obtain rfl : u = Value.ref a := ru
  obtain ⟨m, hF⟩ := I.fr
  obtain ⟨mA, O, _⟩ := ins_get I.hok ha
  obtain ⟨oa, J, _⟩ := O.look
  refine len_K hF I.ok.mod.kin J c.at_ c.fn (thn (run_in1 (E := fun _ => E) (us := [.ref a]) (vs := [.ref a]) (σ := σ) F hr hb (at_all hx σ) I (.cons rfl .nil) q) fun r s1 ⟨z, H1, I1, rz, n, ez, hn, q1⟩ => ?_)
  subst ez
  obtain ⟨t, rfl⟩ := (show ∃ t, r = Value.int (n : Int) t from rz)
  have h63 : (n : Int) < 2 ^ 63 := by
    have : sizeLine < 2 ^ 63 := by decide
    omega
  exact ⟨⟨Int.natCast_nonneg n, h63⟩, .int n, H1, I1.tok _, ⟨_, rfl⟩, q1⟩
/-- o op p, both of the class at C -/
def rOwnOp (C : Addr) (sp : Sp) (E : XK) : R2 := fun x y H Q => ∃ a b dx dy fs gs, x = .ref a ∧ y = .ref b ∧ H a = some (.ins C dx fs) ∧ H b = some (.ins C dy gs) ∧ sp [x, y] H (fun v H' => ∃ q, v = .ref q ∧ Q (.ref q) H') E
theorem op_ownO {op : Operator} (hc : selfFirst X.K C = true) (c : OpC X.K C (PySem.dunder op.info.2) f) (F : FnOk X.prog X.w X.K X.mg X.base CX k f fd ps sp) (hr : Room k X.A) (hb : Binds X.K fd ps []) (hx : Passes CX X E) : OpR X (binaryOp op) (rOwnOp C sp E) := by
  intro pins s σ H x y v u Q I rx ry h
  obtain ⟨a, b, dx, dy, fs, gs, rfl, rfl, ha, hb', q⟩ := h
  obtain rfl : v = Value.ref a := rx
  obtain rfl : u = Value.ref b := ry
  obtain ⟨m, hF⟩ := I.fr
  obtain ⟨mA, O, _⟩ := ins_get I.hok ha
  obtain ⟨mB, O', _⟩ := ins_get I.hok hb'
  obtain ⟨oa, J, _⟩ := O.look
  obtain ⟨ob, J', _⟩ := O'.look
  refine binop_K hF I.ok.mod.kin J J'.type hc c.at_ c.fn (thn (run_fn (us := [.ref a, .ref b]) (vs := [.ref a, .ref b]) F hr hb .nil hx I (.cons rfl (.cons rfl .nil)) q) fun r s1 ⟨z, H1, I1, rz, d, ez, q1⟩ => ?_)
  subst ez
  obtain rfl : r = Value.ref d := rz
  exact ⟨.ref d, H1, I1, rfl, q1⟩
/-- o <= p, o == p, both of the class at C -/
def rOwnCmp (C : Addr) (sp : Sp) (E : XK) : R2 := fun x y H Q => ∃ a dx fs, x = .ref a ∧ H a = some (.ins C dx fs) ∧ ((∃ b dy gs, y = .ref b ∧ H b = some (.ins C dy gs)) ∨ ∃ b ys, y = .ref b ∧ H b = some (.lst ys)) ∧ sp [x, y] H (fun v H' => ∃ q, v = .bl q ∧ Q (.bl q) H') E
theorem cmp_ownO {op : CmpOp} (hl : notFirst X.K C (.type "list") = true) (c : OpC X.K C (cmpInfo op).2.1 f) (F : FnOk X.prog X.w X.K X.mg X.base CX k f fd ps sp) (hr : Room k X.A) (hb : Binds X.K fd ps []) (hx : Passes CX X E) : OpR X (richCompare op) (rOwnCmp C sp E) := by
  intro pins s σ H x y v u Q I rx ry h
  obtain ⟨a, dx, fs, rfl, ha, hy, q⟩ := h
  obtain rfl : v = Value.ref a := rx
  obtain ⟨m, hF⟩ := I.fr
  obtain ⟨mA, O, _⟩ := ins_get I.hok ha
  obtain ⟨oa, J, _⟩ := O.look
  obtain ⟨tb, ht, hn⟩ : ∃ tb, Looks (model X.prog X.w) s.heap (typeOf u) tb ∧ notFirst X.K C tb = true := by
    rcases hy with ⟨b, dy, gs, rfl, hb'⟩ | ⟨b, ys, rfl, hb'⟩
    · obtain rfl : u = Value.ref b := ry
      obtain ⟨mB, O', _⟩ := ins_get I.hok hb'
      obtain ⟨ob, J', _⟩ := O'.look
      exact ⟨_, J'.type, by simp [notFirst]⟩
    · obtain rfl : u = Value.ref b := ry
      obtain ⟨_, _, n, _, h1⟩ := (show ObjOk X.prog X.w H s.heap b (.lst ys) from I.hok b _ hb')
      exact ⟨.type "list", (Looks.ld h1).andThen .now, hl⟩
  refine cmp_K hr.units0 hF I.ok.mod.kin J ht hn c.at_ c.fn (thn (run_fn (us := [.ref a, u]) (vs := [.ref a, y]) F hr hb .nil hx I (.cons rfl (.cons ry .nil)) q) fun r s1 ⟨z, H1, I1, rz, d, ez, q1⟩ => ?_)
  subst ez
  obtain rfl : r = Value.bool d := rz
  exact ⟨.bl d, H1, I1, rfl, q1⟩
theorem op_eqO (hl : notFirst X.K C (.type "list") = true) (c : OpC X.K C "__eq__" f) (F : FnOk X.prog X.w X.K X.mg X.base CX k f fd ps sp) (hr : Room k X.A) (hb : Binds X.K fd ps []) (hx : Passes CX X E) : OpR X (compareOp .Eq) (rOwnCmp C sp E) := cmp_ownO (op := .Eq) hl c F hr hb hx
theorem op_leO (hl : notFirst X.K C (.type "list") = true) (c : OpC X.K C "__le__" f) (F : FnOk X.prog X.w X.K X.mg X.base CX k f fd ps sp) (hr : Room k X.A) (hb : Binds X.K fd ps []) (hx : Passes CX X E) : OpR X (compareOp .LtE) (rOwnCmp C sp E) := cmp_ownO (op := .LtE) hl c F hr hb hx
end
end Yd
namespace Yd
open PySem L2
/-! ### == and in of data -/
section
variable {X : Cx}
/-- both read as the same data -/
def rEqS (K : PySem.W.Frag) : R2 := fun x y H Q => ∃ d, Dp K H x d ∧ Dp K H y d ∧ d.plain = true ∧ d.depth ≤ 60 ∧ Q (.bl true) H
def rNeS (K : PySem.W.Frag) : R2 := fun x y H Q => ∃ d, Dp K H x d ∧ Dp K H y d ∧ d.plain = true ∧ d.depth ≤ 60 ∧ Q (.bl false) H
theorem op_eqS (hu : X.A.units + 64 < cLine) : OpR X (compareOp .Eq) (rEqS X.K) := by
  intro pins s σ H x y v u Q I rx ry h
  obtain ⟨d, hd, he, pd, dd, q⟩ := h
  obtain ⟨as, r1⟩ := Dp.reads I d x v hd rx
  obtain ⟨bs, r2⟩ := Dp.reads I d y u he ry
  refine SeqAt.eq_plain r1 r2 pd pd (by omega) ⟨.bl _, H, I, rfl, ?_⟩
  rw [SeqAt.eqv_refl_plain d pd]
  exact q
theorem op_neS (hu : X.A.units + 64 < cLine) : OpR X (compareOp .NotEq) (rNeS X.K) := by
  intro pins s σ H x y v u Q I rx ry h
  obtain ⟨d, hd, he, pd, dd, q⟩ := h
  obtain ⟨as, r1⟩ := Dp.reads I d x v hd rx
  obtain ⟨bs, r2⟩ := Dp.reads I d y u he ry
  refine SeqAt.ne_plain r1 r2 pd pd (by omega) ⟨.bl _, H, I, rfl, ?_⟩
  rw [SeqAt.eqv_refl_plain d pd]
  exact q
/-- an item in a list, both with a Lean type -/
def rInY (K : PySem.W.Frag) (α : Type) [DecidableEq α] [PySem.W.Datum α] : R2 := fun x y H Q => ∃ (a : α) (as : List α), Dp K H x (PySem.W.Datum.toD a) ∧ Dp K H y (.list (as.map PySem.W.Datum.toD)) ∧ Q (.bl (decide (a ∈ as))) H
theorem any_toD {α : Type} [DecidableEq α] [PySem.W.Datum α] (a : α) : ∀ as : List α, ((as.map PySem.W.Datum.toD).any fun z => PyData.eqv z (PySem.W.Datum.toD a)) = decide (a ∈ as)
  | [] => by simp
  | b :: bs => by
    rw [List.map_cons, List.any_cons, any_toD a bs, PySem.W.Datum.eqv, ← Bool.decide_or]
    refine decide_eq_decide.mpr ?_
    rw [List.mem_cons]
    exact ⟨fun h => h.imp Eq.symm id, fun h => h.imp Eq.symm id⟩
theorem op_inY {α : Type} [DecidableEq α] [PySem.W.Datum α] (hd : PySem.W.Datum.depth α ≤ 60) (hu : X.A.units + 65 < cLine) : OpR X (compareOp .In) (rInY X.K α) := by
  intro pins s σ H x y v u Q I rx ry h
  obtain ⟨a, as, h1, h2, q⟩ := h
  obtain ⟨_, r1⟩ := Dp.reads I _ x v h1 rx
  obtain ⟨_, r2⟩ := Dp.reads I _ y u h2 ry
  have d1 := PySem.W.Datum.depth_le (α := α) a
  refine SeqAt.in_list_data r2 r1 (PySem.W.plainAll_map as) (PySem.W.Datum.plain a) (by omega) ⟨.bl _, H, I, rfl, ?_⟩
  rw [any_toD]
  exact q
end
theorem dp_strs {K : PySem.W.Frag} {H : Hp} : ∀ ss : List Str, DpAll K H (ss.map V.str) (ss.map PyData.str)
  | [] => .nil
  | s :: ss => .cons (.str s) (dp_strs ss)
theorem plain_strs (ss : List Str) : PyData.plainAll (ss.map PyData.str) = true := PySem.W.plainAll_map (α := Str) ss
theorem depth_strs (ss : List Str) : PyData.depthAll (ss.map PyData.str) ≤ 0 := PySem.W.depthAll_map (α := Str) ss
theorem plain_tup (ss : List Str) : (PyData.tuple (ss.map PyData.str)).plain = true := by simp only [PyData.plain]; exact plain_strs ss
theorem depth_tup (ss : List Str) : (PyData.tuple (ss.map PyData.str)).depth ≤ 60 := by
  have h := depth_strs ss
  simp only [PyData.depth]
  omega
theorem plain_lst (ss : List Str) : (PyData.list (ss.map PyData.str)).plain = true := by simp only [PyData.plain]; exact plain_strs ss
theorem depth_lst (ss : List Str) : (PyData.list (ss.map PyData.str)).depth ≤ 60 := by
  have h := depth_strs ss
  simp only [PyData.depth]
  omega
/-- a tuple of texts -/
theorem dp_tup {K : PySem.W.Frag} {H : Hp} {a : Addr} {ss : List Str} (h : SqT K H a (ss.map V.str)) : Dp K H (.ref a) (.tuple (ss.map PyData.str)) := .tup h (dp_strs ss)
theorem dp_lst {K : PySem.W.Frag} {H : Hp} {a : Addr} {ss : List Str} (h : SqL K H a (ss.map V.str)) : Dp K H (.ref a) (.list (ss.map PyData.str)) := .lst h (dp_strs ss)
/-- a list of pairs of texts -/
def PairsAt (H : Hp) : List V → List (Str × Str) → Prop
  | [], [] => True
  | v :: xs, p :: ps => (∃ t, v = .ref t ∧ H t = some (.tup [.str p.1, .str p.2])) ∧ PairsAt H xs ps
  | _, _ => False
theorem PairsAt.keep {H H' : Hp} (k : ∀ t xs, H t = some (.tup xs) → H' t = some (.tup xs)) : ∀ {xs : List V} {ps : List (Str × Str)}, PairsAt H xs ps → PairsAt H' xs ps
  | [], [], _ => True.intro
  | v :: xs, p :: ps, ⟨⟨t, e, h⟩, r⟩ => ⟨⟨t, e, k _ _ h⟩, PairsAt.keep k r⟩
  | [], _ :: _, h => h.elim
  | _ :: _, [], h => h.elim
theorem PairsAt.snoc {H : Hp} {t : Addr} {p : Str × Str} (e : H t = some (.tup [.str p.1, .str p.2])) : ∀ {xs : List V} {ps : List (Str × Str)}, PairsAt H xs ps → PairsAt H (xs ++ [.ref t]) (ps ++ [p])
  | [], [], _ => ⟨⟨t, rfl, e⟩, True.intro⟩
  | v :: xs, q :: ps, ⟨h, r⟩ => ⟨h, PairsAt.snoc e r⟩
  | [], _ :: _, h => h.elim
  | _ :: _, [], h => h.elim
theorem PairsAt.len {H : Hp} : ∀ {xs : List V} {ps : List (Str × Str)}, PairsAt H xs ps → xs.length = ps.length
  | [], [], _ => rfl
  | v :: xs, q :: ps, ⟨_, r⟩ => by rw [List.length_cons, List.length_cons, PairsAt.len r]
  | [], _ :: _, h => h.elim
  | _ :: _, [], h => h.elim
theorem dp_pair {K : PySem.W.Frag} {H : Hp} {t : Addr} {p : Str × Str} (h : H t = some (.tup [.str p.1, .str p.2])) : Dp K H (.ref t) (PySem.W.Datum.toD p) := .tup (SqT.of h) (.cons (.str _) (.cons (.str _) .nil))
theorem PairsAt.dp {K : PySem.W.Frag} {H : Hp} : ∀ {xs : List V} {ps : List (Str × Str)}, PairsAt H xs ps → DpAll K H xs (ps.map PySem.W.Datum.toD)
  | [], [], _ => .nil
  | v :: xs, q :: ps, ⟨⟨t, e, h⟩, r⟩ => by subst e; exact .cons (dp_pair h) (PairsAt.dp r)
  | [], _ :: _, h => h.elim
  | _ :: _, [], h => h.elim
end Yd
namespace Yd
open PySem L2
/-! ### a dict comprehension whose keys are pairs (tuples of texts and ints) -/
section
variable {X : Cx}
/-- the new dict at D gets one more pair -/
theorem d_setPair {pins : List (Addr × Obj)} {σ : St} {H : Hp} {s : Shared} {E : Value → Shared → Prop} {D b : Addr} {kvs : List (List Key × V)} {k : List Key} {v : V} {r : Value} {Q : Unit → Shared → Prop} (hu : X.A.units < cLine) (I : Inv X pins σ H s) (hD : H D = some (.dT kvs)) (hb : H b = some (.tup (k.map kV))) (hz : kvs.length < sizeLine)
    (rv : RelV v r) (h : ∀ s', Inv X pins σ (upd H D (.dT (putK kvs k v))) s' → Q () s') : wpAny (model X.prog X.w) X.A (dictSet D (.ref b) r) Q E s := by
  obtain ⟨z, hd, xs, rel, dd⟩ := dt_of I.hok hD
  have l1 : xs.length ≤ sizeLine := Nat.le_trans (Nat.le_of_eq (Paired.length rel).symm) z
  have l2 : (putK kvs k v).length ≤ sizeLine := Nat.le_trans (length_putK kvs k v) hz
  refine wpAny_dictSet_heap (knd := tupleKind (mixKind X.prog X.w)) (hsz := l1) hu (key_of I.hok hb) dd fun h' dd' hs => h _ ?_
  obtain ⟨q, es, ep, hq, c1, c2, c3, _, c5⟩ := dd'
  refine d_write I (by rw [hD]; exact True.intro) hs ⟨q, hq⟩ ⟨l2, hd, _, (rel.put k hb rv).keeps fun c ys ec => ?_, q, es, ep, hq, c1, c2, c3, c5⟩
  rw [upd_ne (ne_of ec hD (fun z => nomatch z))]
  exact ec
/-- what each turn does: the key's tuple, the worth, the dict with the pair -/
def pairTurn (D : Addr) (tk tv : TE) (σ : St) (H : Hp) (R : Hp → Prop) : Prop :=
  tk σ H fun y H1 => tv σ H1 fun z H2 => ∃ kvs k b, y = .ref b ∧ H2 b = some (.tup (List.map kV k)) ∧ H2 D = some (.dT kvs) ∧ kvs.length < sizeLine ∧ R (upd H2 D (.dT (putK kvs k z)))
/-- {k: v for target in iter if ..}, the keys tuples -/
def tDp (wi : TI) (g : TG) (tt : TT) (tk tv : TE) (vs : List Nat) : TE := fun σ H Q => wi σ H fun J H1 => ∀ D, H1 D = none → ∃ W : Nat → Nat → Hp → Prop, (∃ m, W 0 m (upd H1 D (.dT []))) ∧ ∀ i m H, W i m H →
  (J.stop i H ∧ Q (.ref D) H) ∨ (J.go i H ∧ ∃ Nx : Hp → Prop, (∀ H', Nx H' → ∃ m', m' < m ∧ W (i + 1) m' H') ∧ ∀ x H', J.yld i H x H' → g x (wipe σ vs) H' fun σ2 H2 => wipe σ2 vs = wipe σ vs ∧ tt σ2 H2 fun b H3 => if b = true then pairTurn D tk tv σ2 H3 Nx else Nx H3)
theorem pe_dp {kx vx tg iter : Expr} {ifs : List Expr} {scope : Scope} {own : List (Str × Nat)} {pos : Pos} {wi : TI} {g : TG} {tt : TT} {tk tv : TE} (hu : X.A.units < cLine) (hc : X.calm = true) (hN : X.N.Nodup) (hi : PI X tg iter wi) (ok : BlkOk X.N X.env.scope scope own)
    (hg : ∀ (s : Shared) (H : Hp) (C : Addr) (cl : List (Str × Addr)) (fp : List Addr), PG (X.blk s H scope (compEnvC scope cl C X.env) fp) tg g) (ht : ∀ (s : Shared) (H : Hp) (C : Addr) (cl : List (Str × Addr)) (fp : List Addr), PTs (X.blk s H scope (compEnvC scope cl C X.env) fp) ifs tt)
    (hk : ∀ (s : Shared) (H : Hp) (C : Addr) (cl : List (Str × Addr)) (fp : List Addr), PE (X.blk s H scope (compEnvC scope cl C X.env) fp) kx tk)
    (he : ∀ (s : Shared) (H : Hp) (C : Addr) (cl : List (Str × Addr)) (fp : List Addr), PE (X.blk s H scope (compEnvC scope cl C X.env) fp) vx tv) (hs : ∀ x, foldedSetIterable iter X.env x = pure x := by intro _; rfl) :
    PE X (.DictComp kx vx [⟨tg, iter, ifs, 0⟩] scope pos) (tDp wi g tt tk tv (own.map (·.2))) := by
  refine ⟨fun pins s σ H Q I h => ?_⟩
  rw [arm_eval_DictComp]
  have free : ∀ y ∈ scope.names, y.2 = .free → ∃ c, X.env.cells.lookup y.1 = some c := fun y hy e => (ok.free y hy e).elim (fun k => I.ok.has _ (.inl k)) fun k => I.ok.has _ (.inr k)
  refine wpAny_comprehension_free rfl hs (closure_ok free) ok.kind (fun y hy e => (ok.uniq y hy).trans (congrArg some e)) (thn (hi.run pins s σ H _ I h) fun _ s1 hx => thn hx fun _ s2 ⟨it, fp, tn, J, H2, e, I2, T, t2, own2, q⟩ => ?_)
  subst e
  refine wpAny_newObj_type (newEnv_comp ?_)
  -- the dict
  have fresh : H2 s2.heap.objs.size = none := I2.hok.fresh (Nat.le_refl _)
  obtain ⟨W, ⟨m0, w0⟩, turn⟩ := q _ fresh
  have ID : Inv X pins σ (upd H2 s2.heap.objs.size (.dT [])) { s2 with heap := s2.heap.push { cls := .type "dict", data := .dict #[] } } := I2.laid (t' := s2.toks) (fun _ _ e => Heap.get?_push_of_some _ e) (Nat.le_refl _) (dt_empty s2.heap I2.big)
  have fpD : ∀ b ∈ fp, FpOk X pins (upd H2 s2.heap.objs.size (.dT [])) b ∧ b < (s2.heap.push { cls := .type "dict", data := .dict #[] }).objs.size := fun b hb => by
    obtain ⟨o, e, _⟩ := T.obj _ _ t2 b hb
    have lt := Heap.lt_size e
    exact ⟨⟨by rw [upd_ne (Nat.ne_of_lt lt)]; exact (own2 b hb).1, (own2 b hb).2⟩, by rw [Heap.size_push]; exact Nat.lt_succ_of_lt lt⟩
  have tD : tn 0 (s2.heap.push { cls := .type "dict", data := .dict #[] }) := T.keep _ _ _ t2 fun b _ o e => Heap.get?_push_of_some _ e
  generalize hs3 : ({ s2 with heap := s2.heap.push { cls := .type "dict", data := .dict #[] } } : Shared) = s3 at ID
  have h3 : s2.heap.push { cls := .type "dict", data := .dict #[] } = s3.heap := by rw [← hs3]
  rw [h3] at fpD tD
  generalize s2.heap.objs.size = D at fresh w0 turn ID fpD ⊢
  generalize upd H2 D (.dT []) = H3 at w0 ID fpD
  -- the block
  have IB := block_start ID ok hN fpD
  have pg := hg s3 H3 s3.heap.objs.size (cellsFrom (s3.heap.objs.size + 1) scope.names (cloFrom X.env.cells scope.names [])) fp
  have pt := ht s3 H3 s3.heap.objs.size (cellsFrom (s3.heap.objs.size + 1) scope.names (cloFrom X.env.cells scope.names [])) fp
  have pk := hk s3 H3 s3.heap.objs.size (cellsFrom (s3.heap.objs.size + 1) scope.names (cloFrom X.env.cells scope.names [])) fp
  have pv := he s3 H3 s3.heap.objs.size (cellsFrom (s3.heap.objs.size + 1) scope.names (cloFrom X.env.cells scope.names [])) fp
  have away : ∀ b ∈ fp, H3 b = none := fun b hb => (fpD b hb).1.1
  change codeAny _ _ (.compStart (.DictComp kx vx [⟨tg, iter, ifs, 0⟩] scope pos) 0 (.ref it) (.ref D) (compEnvC scope (cellsFrom (s3.heap.objs.size + 1) scope.names (cloFrom X.env.cells scope.names [])) s3.heap.objs.size X.env)) (compPost (model X.prog X.w) X.A X.xe none (EP X pins σ Q) (.ref D) s3.heap.objs.size) { s3 with heap := pushCells (s3.heap.push { cls := .type "dict", data := .dict #[] }) scope.names }
  generalize hce : compEnvC scope (cellsFrom (s3.heap.objs.size + 1) scope.names (cloFrom X.env.cells scope.names [])) s3.heap.objs.size X.env = ce at IB pg pt pk pv ⊢
  have cl : ce.locals = s3.heap.objs.size := by rw [← hce]; rfl
  generalize hs4 : ({ s3 with heap := pushCells (s3.heap.push { cls := .type "dict", data := .dict #[] }) scope.names } : Shared) = s4 at IB ⊢
  have t4 : tn 0 s4.heap := T.keep _ _ _ tD fun b _ o e => by rw [← hs4]; exact pushCells_keeps _ _ _ _ (Heap.get?_push_of_some _ e)
  -- what holds between two turns
  let B : Cx := X.blk s3 H3 scope ce fp
  have inB : ∀ {σ' : St} {H' : Hp} {s' : Shared}, Inv B [] σ' H' s' → (∀ b ∈ fp, H' b = none) → ∀ b ∈ fp, FpOk B [] H' b := fun J n b hb =>
    ⟨n b hb, (J.ok.exf b hb).1, J.ok.exfs b hb, .inl hb, fun x c e => (J.ok.exf b hb).2 x c e, fun _ hp => nomatch (show _ ∈ ([] : List (Addr × Obj)) from hp)⟩
  have loop : codeAny (model X.prog X.w) X.A (.compLoop (.DictComp kx vx [⟨tg, iter, ifs, 0⟩] scope pos) 0 (.ref it) (.ref D) ce) (compPost (model X.prog X.w) X.A X.xe none (EP X pins σ Q) (.ref D) s3.heap.objs.size) s4 := by
    refine compLoop_anyD (fun n s' => ∃ i H', Inv B [] (wipe σ (own.map (·.2))) H' s' ∧ tn i s'.heap ∧ (∀ b ∈ fp, H' b = none) ∧ W i n H') ?_ m0 ⟨0, H3, IB, t4, away, w0⟩
    rintro n s5 ⟨i, H5, I5, t5, n5, w5⟩
    rcases turn i n H5 w5 with ⟨stop, fin⟩ | ⟨go, Nx, next, step⟩
    · -- the iterator is at its end: back in the def
      refine thnF (T.done B rfl rfl rfl hc i [] s5 _ H5 (fun _ _ => False) I5 (inB I5 n5) t5 stop) fun r s6 ⟨hr, I6⟩ => ?_
      subst hr
      have back : Inv X pins σ H5 s6 := ID.call' (ch := fp) I6.os I6.base I6.hok I6.bare fun b hb => ⟨(fpD b hb).1.2.2.2.1, (fpD b hb).1.2.1, (fpD b hb).1.2.2.2.2.1, (fpD b hb).1.2.2.2.2.2⟩
      have gone : H5 s3.heap.objs.size = none := cl ▸ (show H5 ce.locals = none from I6.free)
      obtain ⟨m, ns, _⟩ := I6.loc
      have ns : s6.heap.Ns s3.heap.objs.size m := cl ▸ (show s6.heap.Ns ce.locals m from ns)
      obtain ⟨f0, f1, _, f3, f4, f5⟩ := ID.fpOk (Nat.le_refl _) gone
      exact ⟨m, ns, fun h'' sb => ⟨.ref D, H5, back.turned (t' := s6.toks) (fun b o hb e => (sb.2 b hb).trans e) f0 f1 f3 f4 f5, rfl, fin⟩⟩
    · -- a turn
      refine thnF (T.item B rfl rfl rfl hc i [] s5 _ H5 (fun _ _ => False) I5 (inB I5 n5) t5 go) fun r s6 ⟨u, hr, h6⟩ => ?_
      subst hr
      refine thnF h6 fun _ s7 ⟨x, H7, I7, r7, y7, t7, n7⟩ => ?_
      refine thnF (pg.run _ s7 _ H7 x u _ (I7.pinned (inB I7 n7) (T.obj _ _ t7)) r7 (step x H7 y7)) fun _ s8 ⟨σ8, H8, I8, hw, q8⟩ => ?_
      refine thnF (pt.run _ s8 σ8 H8 _ I8 q8) fun b s9 ⟨H9, I9, q9⟩ => ?_
      -- its end
      have done : ∀ {s' : Shared} {H' : Hp}, Inv B ([] ++ pinsAt fp s7.heap) σ8 H' s' → Nx H' → ∃ m, m < n ∧ ∃ i H', Inv B [] (wipe σ (own.map (·.2))) H' s' ∧ tn i s'.heap ∧ (∀ b ∈ fp, H' b = none) ∧ W i m H' := fun {s' H'} J nx => by
        obtain ⟨m', lt, w'⟩ := next H' nx
        have still : ∀ b ∈ fp, ∀ o, s7.heap.get? b = some o → s'.heap.get? b = some o ∧ H' b = none := fun b hb o e => by
          have z := J.pin (b, o) (List.mem_append_right _ (List.mem_append_right _ (mem_pinsAt hb e)))
          exact ⟨z.1, z.2.1⟩
        refine ⟨m', lt, i + 1, H', (J.unpinned (pins := [])).weak (by rw [← hw, wipe_length]) (fun j v e => ?_), T.keep _ _ _ t7 fun b hb o e => (still b hb o e).1, fun b hb => ?_, w'⟩
        · rw [← hw] at e
          exact (wipe_some e).1
        · obtain ⟨o, e, _⟩ := T.obj _ _ t7 b hb
          exact (still b hb o e).2
      cases b with
      | false => exact done I9 (by simpa using q9)
      | true =>
        have q9 : pairTurn D tk tv σ8 H9 Nx := by simpa using q9
        refine thnF (pk.run _ s9 σ8 H9 _ I9 q9) fun u10 s10 ⟨y10, H10, I10, r10, q10⟩ => ?_
        refine thnF (pv.run _ s10 σ8 H10 _ I10 q10) fun _ s11 ⟨_, H11, I11, r11, kvs, k, c, ek, hc11, hD11, hz, nx⟩ => ?_
        subst ek
        cases r10
        exact d_setPair (X := B) hu I11 hD11 hc11 hz r11 fun _ I12 => done I12 nx
  exact codeAny_compStart_dict loop (T.self X.A 0 _ _ _ t4 loop)
end
end Yd
namespace Yd
open PySem L2
/-! ### comprehensions, run over what an iterator yields -/
theorem dp_run {J : It} {n : Nat} {D : Addr} {g : TG} {tt : TT} {tk tv : TE} {vs : List Nat} {σ : St} {H1 : Hp} {Qd : Hp → Prop} (Pv : Nat → Hp → Prop) (h0 : Pv 0 (upd H1 D (.dT []))) (hgo : ∀ i H, i < n → Pv i H → J.go i H) (hst : ∀ H, Pv n H → J.stop n H)
    (hs : ∀ i x H H', i < n → Pv i H → J.yld i H x H' → g x (wipe σ vs) H' fun σ2 H2 => wipe σ2 vs = wipe σ vs ∧ tt σ2 H2 fun b H3 => if b = true then pairTurn D tk tv σ2 H3 (Pv (i + 1)) else Pv (i + 1) H3) (hd : ∀ H, Pv n H → Qd H) :
    ∃ W : Nat → Nat → Hp → Prop, (∃ m, W 0 m (upd H1 D (.dT []))) ∧ ∀ i m H, W i m H →
      (J.stop i H ∧ Qd H) ∨ (J.go i H ∧ ∃ Nx : Hp → Prop, (∀ H', Nx H' → ∃ m', m' < m ∧ W (i + 1) m' H') ∧ ∀ x H', J.yld i H x H' → g x (wipe σ vs) H' fun σ2 H2 => wipe σ2 vs = wipe σ vs ∧ tt σ2 H2 fun b H3 => if b = true then pairTurn D tk tv σ2 H3 Nx else Nx H3) := by
  refine ⟨fun i m H => m = n - i ∧ i ≤ n ∧ Pv i H, ⟨_, rfl, Nat.zero_le _, h0⟩, fun i m H ⟨em, hi, p⟩ => ?_⟩
  subst em
  by_cases lt : i < n
  · exact .inr ⟨hgo i H lt p, Pv (i + 1), fun H' p' => ⟨n - (i + 1), by omega, rfl, lt, p'⟩, fun x H' y => hs i x H H' lt p y⟩
  · have e : i = n := by omega
    subst e
    exact .inl ⟨hst H p, hd H p⟩
theorem lc_run {J : It} {n : Nat} {D : Addr} {g : TG} {tt : TT} {te : TE} {vs : List Nat} {σ : St} {H1 : Hp} {Qd : Hp → Prop} (Pv : Nat → Hp → Prop) (h0 : Pv 0 (upd H1 D (.lst []))) (hgo : ∀ i H, i < n → Pv i H → J.go i H) (hst : ∀ H, Pv n H → J.stop n H)
    (hs : ∀ i x H H', i < n → Pv i H → J.yld i H x H' → g x (wipe σ vs) H' fun σ2 H2 => wipe σ2 vs = wipe σ vs ∧ tt σ2 H2 fun b H3 => if b = true then te σ2 H3 fun y H4 => ∃ acc, H4 D = some (.lst acc) ∧ acc.length < sizeLine ∧ Pv (i + 1) (upd H4 D (.lst (acc ++ [y]))) else Pv (i + 1) H3) (hd : ∀ H, Pv n H → Qd H) :
    ∃ W : Nat → Nat → Hp → Prop, (∃ m, W 0 m (upd H1 D (.lst []))) ∧ ∀ i m H, W i m H →
      (J.stop i H ∧ Qd H) ∨ (J.go i H ∧ ∃ Nx : Hp → Prop, (∀ H', Nx H' → ∃ m', m' < m ∧ W (i + 1) m' H') ∧ ∀ x H', J.yld i H x H' → g x (wipe σ vs) H' fun σ2 H2 => wipe σ2 vs = wipe σ vs ∧ tt σ2 H2 fun b H3 =>
        if b = true then te σ2 H3 fun y H4 => ∃ acc, H4 D = some (.lst acc) ∧ acc.length < sizeLine ∧ Nx (upd H4 D (.lst (acc ++ [y]))) else Nx H3) := by
  refine ⟨fun i m H => m = n - i ∧ i ≤ n ∧ Pv i H, ⟨_, rfl, Nat.zero_le _, h0⟩, fun i m H ⟨em, hi, p⟩ => ?_⟩
  subst em
  by_cases lt : i < n
  · exact .inr ⟨hgo i H lt p, Pv (i + 1), fun H' p' => ⟨n - (i + 1), by omega, rfl, lt, p'⟩, fun x H' y => hs i x H H' lt p y⟩
  · have e : i = n := by omega
    subst e
    exact .inl ⟨hst H p, hd H p⟩
/-! ### each pair once; a dict of pairs -/
abbrev Pr := Str × Str
def addP (acc : List Pr) (p : Pr) : List Pr := if p ∈ acc then acc else acc ++ [p]
def onceP (ps : List Pr) : List Pr := ps.foldl addP []
theorem takeP {ps : List Pr} {i : Nat} {p : Pr} (h : ps[i]? = some p) : ps.take (i + 1) = ps.take i ++ [p] := by
  rw [List.take_add_one, h]
  rfl
theorem onceP_more {ps : List Pr} {i : Nat} {p : Pr} (h : ps[i]? = some p) : onceP (ps.take (i + 1)) = addP (onceP (ps.take i)) p := by
  unfold onceP
  rw [takeP h, List.foldl_append]
  rfl
theorem addP_nd {acc : List Pr} {p : Pr} (h : acc.Nodup) : (addP acc p).Nodup := by
  unfold addP
  by_cases m : p ∈ acc
  · rw [if_pos m]; exact h
  · rw [if_neg m, List.nodup_append]
    exact ⟨h, List.nodup_cons.mpr ⟨List.not_mem_nil, List.nodup_nil⟩, fun a ha b hb e => m (by rw [List.mem_singleton.mp hb] at e; rw [← e]; exact ha)⟩
theorem onceP_nd (ps : List Pr) : (onceP ps).Nodup := by
  unfold onceP
  suffices q : ∀ (l acc : List Pr), acc.Nodup → (l.foldl addP acc).Nodup from q ps [] List.nodup_nil
  intro l
  induction l with
  | nil => intro acc h; exact h
  | cons s l ih => intro acc h; exact ih _ (addP_nd h)
theorem onceP_len (ps : List Pr) : (onceP ps).length ≤ ps.length := by
  unfold onceP
  suffices q : ∀ (l acc : List Pr), (l.foldl addP acc).length ≤ acc.length + l.length by
    have := q ps []
    rw [List.length_nil, Nat.zero_add] at this
    exact this
  intro l
  induction l with
  | nil => intro acc; exact Nat.le_refl _
  | cons s l ih =>
    intro acc
    have h1 := ih (addP acc s)
    have h2 : (addP acc s).length ≤ acc.length + 1 := by
      unfold addP
      split
      · omega
      · rw [List.length_append]; exact Nat.le_refl _
    rw [List.foldl_cons, List.length_cons]
    omega
theorem onceP_mem {p : Pr} (ps : List Pr) : p ∈ onceP ps ↔ p ∈ ps := by
  unfold onceP
  suffices q : ∀ (l acc : List Pr), p ∈ l.foldl addP acc ↔ p ∈ acc ∨ p ∈ l by
    have := q ps []
    simpa using this
  intro l
  induction l with
  | nil => intro acc; simp
  | cons s l ih =>
    intro acc
    rw [List.foldl_cons, ih]
    unfold addP
    by_cases m : s ∈ acc
    · rw [if_pos m, List.mem_cons]
      exact ⟨fun h => h.elim .inl fun h => .inr (.inr h), fun h => h.elim .inl fun h => h.elim (fun e => .inl (by rw [e]; exact m)) .inr⟩
    · rw [if_neg m, List.mem_append, List.mem_singleton, List.mem_cons, or_assoc]
def kP (p : Pr) : List Key := [Sum.inr p.1, Sum.inr p.2]
theorem kP_inj {p q : Pr} (h : kP p = kP q) : p = q := by
  unfold kP at h
  injection h with h1 h2
  injection h2 with h2 _
  injection h1 with h1
  injection h2 with h2
  exact Prod.ext h1 h2
theorem kP_map (p : Pr) : (kP p).map kV = [.str p.1, .str p.2] := rfl
def pD (ps : List Pr) : List (List Key × V) := ps.map fun p => (kP p, V.bl true)
theorem pD_val (p : Pr) : ∀ ps : List Pr, valV (pD ps) (kP p) = if p ∈ ps then some (.bl true) else none
  | [] => by simp [pD, valV_nil]
  | t :: ps => by
    have e : pD (t :: ps) = (kP t, V.bl true) :: pD ps := rfl
    rw [e]
    by_cases h : t = p
    · subst h
      rw [valV_pos rfl, if_pos (List.mem_cons_self ..)]
    · rw [valV_neg (fun z => h (kP_inj z)), pD_val p ps]
      by_cases m : p ∈ ps
      · rw [if_pos m, if_pos (List.mem_cons_of_mem _ m)]
      · rw [if_neg m, if_neg fun q => (List.mem_cons.mp q).elim (fun z => h z.symm) m]
theorem pD_put (acc : List Pr) (p : Pr) : putK (pD acc) (kP p) (.bl true) = pD (addP acc p) := by
  unfold addP
  by_cases m : p ∈ acc
  · rw [if_pos m]
    unfold putK
    have a : ((pD acc).any fun kv => decide (kv.1 = kP p)) = true := by
      rw [valV_any, pD_val, if_pos m]
      rfl
    rw [if_pos a]
    have e : ∀ kv ∈ pD acc, (if kv.1 = kP p then (kv.1, V.bl true) else kv) = kv := fun kv hk => by
      obtain ⟨t, _, rfl⟩ := List.mem_map.mp hk
      split <;> rfl
    rw [List.map_congr_left e, List.map_id']
  · rw [if_neg m, putK_new _ (by rw [pD_val, if_neg m])]
    unfold pD
    rw [List.map_append]
    rfl
theorem pD_len (ps : List Pr) : (pD ps).length = ps.length := List.length_map _
theorem PairsAt.get {H : Hp} : ∀ {xs : List V} {ps : List Pr} {i : Nat} {x : V}, PairsAt H xs ps → xs[i]? = some x → ∃ t p, x = .ref t ∧ ps[i]? = some p ∧ H t = some (.tup [.str p.1, .str p.2])
  | v :: xs, p :: ps, 0, x, ⟨⟨t, e, h⟩, _⟩, hx => ⟨t, p, by rw [← Option.some.inj hx]; exact e, rfl, h⟩
  | v :: xs, p :: ps, i + 1, x, ⟨_, r⟩, hx => PairsAt.get (i := i) r (by simpa using hx)
  | [], _, _, _, _, hx => by simp at hx
  | _ :: _, [], _, _, h, _ => h.elim
end Yd
namespace Yd
open PySem L2
/-! ### == of two dicts whose keys are tuples -/
section
open PySem.W PySem.Calls
variable {prog : Program} {w : World} {K : Type} [DecidableEq K] {knd : HeapKind prog w K} {A : Around} {E : Value → Shared → Prop} {s : Shared}
inductive HitsH {K : Type} [DecidableEq K] (A : Around) (s : Shared) (ys : List (K × Addr × Value)) : List (K × Addr × Value) → Bool → Prop
  | nil : HitsH A s ys [] true
  | miss {k : K} {p : Addr × Value} {r : List (K × Addr × Value)} : atKey ys k = none → HitsH A s ys ((k, p) :: r) false
  | hit {k : K} {p y : Addr × Value} {r : List (K × Addr × Value)} {e b : Bool} : atKey ys k = some y → SeqAt.EqAt A s p.2 y.2 e → HitsH A s ys r b → HitsH A s ys ((k, p) :: r) (e && b)
theorem HitsH.inv {ys : List (K × Addr × Value)} {k : K} {p : Addr × Value} {r : List (K × Addr × Value)} {b : Bool} (h : HitsH A s ys ((k, p) :: r) b) :
    (atKey ys k = none ∧ b = false) ∨ ∃ y e b', atKey ys k = some y ∧ SeqAt.EqAt A s p.2 y.2 e ∧ HitsH A s ys r b' ∧ b = (e && b') := by
  cases h with
  | miss hn => exact .inl ⟨hn, rfl⟩
  | hit hy he hr => exact .inr ⟨_, _, _, hy, he, hr, rfl⟩
theorem heq_samePairs {nm : String} {a b : Addr} {xs ys : List (K × Addr × Value)} {r : Bool} {Q : Bool → Shared → Prop} (hu : knd.room A) (ha : (a == sysModules) = false) (hb : (b == sysModules) = false)
    (da : s.heap.DictOfH knd a xs) (db : s.heap.DictOfH knd b ys) (hits : xs.length = ys.length → HitsH A s ys xs r) (h : Q (xs.length == ys.length && r) s) :
    wpAny (model prog w) A (Builtin.Dict.samePairs nm a b) Q E s := by
  obtain ⟨oa, es, ep, hoa, _, hda, hea, hka, hna⟩ := da
  obtain ⟨ob, es', ep', hob, _, hdb, heb, hkb, hnb⟩ := db
  have hla : xs.length = es.size := (size_of_entries hea).symm
  have hlb : ys.length = es'.size := (size_of_entries heb).symm
  rw [hla, hlb] at h
  unfold Builtin.Dict.samePairs Builtin.Dict.showsAll
  rw [if_neg (show ¬ (a == sysModules) = true by rw [ha]; exact Bool.false_ne_true), if_neg (show ¬ (b == sysModules) = true by rw [hb]; exact Bool.false_ne_true)]
  refine wpAny_bind (wpAny_pure (wpAny_bind (wpAny_pure ?_)))
  refine wpAny_bind (wpAny_dictEntries hoa hda ?_)
  dsimp only
  refine wpAny_bind (wpAny_dictEntries hob hdb ?_)
  by_cases hsz : es.size = es'.size
  case neg =>
    rw [if_pos (by simpa using hsz)]
    have hbf : (es.size == es'.size) = false := by simpa using hsz
    rw [hbf, Bool.false_and] at h
    exact wpAny_bind (wpAny_rule (wpAny_pure h))
  case pos =>
    have h' : Q r s := by simpa [hsz] using h
    have hits' := hits (by rw [hla, hlb]; exact hsz)
    rw [if_neg (by rw [hsz]; simp)]
    refine wpAny_bind (wpAny_dictEpoch hoa hda ?_)
    refine wpAny_bind ?_
    rw [Std.Legacy.Range.forIn_eq_forIn_range']
    simp only [Std.Legacy.Range.size, Nat.sub_zero, Nat.add_sub_cancel, Nat.div_one]
    refine wpAny_forIn_list _
      (fun rest q s' => s' = s ∧ q = (none, ()) ∧ ∃ i, rest = List.range' i (es.size - i) ∧ i ≤ es.size ∧ HitsH A s ys (xs.drop i) r)
      _ ?_ ?_ _ _ ⟨rfl, rfl, 0, by simp, Nat.zero_le _, hits'⟩
    · rintro x rest q s' ⟨rfl, rfl, i, hr, hi, hpre⟩
      have hlt : i < es.size := by
        rcases Nat.lt_or_ge i es.size with h | h
        · exact h
        · rw [Nat.sub_eq_zero_of_le h] at hr; simp at hr
      obtain ⟨rfl, hrest⟩ : x = i ∧ rest = List.range' (i + 1) (es.size - (i + 1)) := by
        have e : es.size - i = (es.size - (i + 1)) + 1 := by omega
        rw [e, List.range'_succ] at hr
        injection hr with h1 h2
        exact ⟨h1, h2⟩
      refine wpAny_bind (wpAny_dictEntries hoa hda ?_)
      rw [Array.getElem?_eq_getElem hlt]
      have hlt' : x < xs.length := by rw [hla]; exact hlt
      obtain ⟨k, p, hkv⟩ : ∃ k p, xs[x] = (k, p) := ⟨_, _, rfl⟩
      have hdrop : xs.drop x = (k, p) :: xs.drop (x + 1) := by rw [← hkv]; exact List.drop_eq_getElem_cons hlt'
      have hent : es[x] = entryOfKey knd (k, p) := by
        have q := entry_at hea x
        rw [Array.getElem?_eq_getElem hlt, List.getElem?_eq_getElem hlt', hkv] at q
        exact Option.some.inj q
      have hkey : knd.is s'.heap k p.1 := hka (k, p) (by rw [← hkv]; exact List.getElem_mem hlt')
      rw [hdrop] at hpre
      rw [hent]
      refine wpAny_bind (wpAny_holding (wpAny_bind (wpAny_dictFind_heap (k := k) (a := p.1) hu hkey hob hdb heb hkb hnb (fun hnone => ?_) fun j y hj => ?_)))
      · have hn : atKey ys k = none := atKey_none_of_get hnone
        rcases hpre.inv with ⟨_, er⟩ | ⟨y, _, _, hy, _⟩
        · rw [er] at h'
          refine wpAny_pure ?_
          show wpAny _ _ (if (!false) = true then _ else _) _ _ _
          rw [if_pos (by decide)]
          exact wpAny_pure (wpAny_pure h')
        · rw [hn] at hy; exact nomatch hy
      · have hv' : atKey ys k = some y := atKey_of_get hnb hj
        refine wpAny_bind (wpAny_dictEntries hob hdb ?_)
        have hej : es'[j]? = some (entryOfKey knd (k, y)) := by rw [entry_at heb j, hj]; rfl
        rw [hej]
        rcases hpre.inv with ⟨hn, _⟩ | ⟨y', e, b', hy, he, hrr, er⟩
        · rw [hv'] at hn; exact nomatch hn
        · have ey : y = y' := Option.some.inj (hv'.symm.trans hy)
          rw [← ey] at he
          refine wpAny_holding (he prog w _ _ ?_)
          cases e with
          | false =>
            rw [er, Bool.false_and] at h'
            show wpAny _ _ (if (!false) = true then _ else _) _ _ _
            rw [if_pos (by decide)]
            exact wpAny_pure (wpAny_pure h')
          | true =>
            rw [Bool.true_and] at er
            rw [← er] at hrr
            show wpAny _ _ (if (!true) = true then _ else _) _ _ _
            rw [if_neg (by decide)]
            refine wpAny_bind (wpAny_dictEpoch hoa hda ?_)
            rw [if_neg (by simp)]
            exact wpAny_pure ⟨rfl, rfl, x + 1, hrest, hlt, hrr⟩
    · rintro q s' ⟨rfl, rfl, i, hr, hi, hpre⟩
      have hin : i = es.size := by
        rcases Nat.lt_or_ge i es.size with h | h
        · have e : es.size - i = (es.size - (i + 1)) + 1 := by omega
          rw [e, List.range'_succ] at hr; exact nomatch hr
        · exact Nat.le_antisymm hi h
      refine wpAny_pure ?_
      rw [hin, ← hla, List.drop_length] at hpre
      cases hpre
      exact h'
theorem heq_eq {a b : Addr} {xs ys : List (K × Addr × Value)} {r : Bool} {Q : Value → Shared → Prop} (hk : knd.room A.in1) (ha : (a == sysModules) = false) (hb : (b == sysModules) = false)
    (da : s.heap.DictOfH knd a xs) (db : s.heap.DictOfH knd b ys) (hu : A.units < cLine) (hits : xs.length = ys.length → HitsH A.in1 s ys xs r) (h : Q (.bool (xs.length == ys.length && r)) s) :
    wpAny (model prog w) A (compareOp .Eq (.ref a) (.ref b)) Q E s := by
  refine wpAny_richCompare_same_room (op := .Eq) da.typeIs db.typeIs PySem.F.slot_dict_eq (wpAny_call_entry PySem.F.slot_dict_eq da.typeIs PySem.F.entry_dict_eq ?_ (PySem.F.args_dict_eq_2 _ _)) hu
  show wpAny _ _ (Builtin.Dict.dictSlotArgs "__eq__" ⟨[.ref a, .ref b], []⟩ >>= _) _ _ s
  refine wpAny_bind ?_
  unfold Builtin.Dict.dictSlotArgs
  refine wpAny_bind (wpAny_notOrdered_dict da.typeIs ?_)
  show wpAny _ _ (pure (Value.ref a, Value.ref b)) _ _ s
  refine wpAny_pure ?_
  refine wpAny_bind (wpAny_isInstance (T := "dict") db.typeIs PySem.F.sub_dict_dict ?_)
  simp only [Bool.not_true, Bool.false_eq_true, if_false]
  refine wpAny_bind (wpAny_pure (wpAny_bind (wpAny_pure ?_)))
  refine wpAny_bind (heq_samePairs hk ha hb da db hits ?_)
  refine wpAny_pure ⟨_, rfl, ?_, ?_⟩
  · exact fun x => nomatch x
  · simpa using h
/-- what the values of the one say of those of the other -/
inductive HitsT (K : PySem.W.Frag) (H : Hp) (ls : List (List Key × V)) : List (List Key × V) → Bool → Prop
  | nil : HitsT K H ls [] true
  | miss {k : List Key} {v : V} {r : List (List Key × V)} : valV ls k = none → HitsT K H ls ((k, v) :: r) false
  | hit {k : List Key} {v v' : V} {d d' : PyData} {r : List (List Key × V)} {b : Bool} : valV ls k = some v' → Dp K H v d → Dp K H v' d' → d.plain = true → d'.plain = true → d.depth ≤ 60 → HitsT K H ls r b → HitsT K H ls ((k, v) :: r) (PyData.eqv d d' && b)
variable {X : Cx}
def rEqT (K : PySem.W.Frag) : R2 := fun x y H Q => ∃ a b ks ls r, x = .ref a ∧ y = .ref b ∧ Rd H a (.dT ks) ∧ Rd H b (.dT ls) ∧ (ks.length = ls.length → HitsT K H ls ks r) ∧ Q (.bl (ks.length == ls.length && r)) H
theorem op_eqT (hu : X.A.units + 70 < cLine) : OpR X (compareOp .Eq) (rEqT X.K) := by
  intro pins s σ H x y v u Q I rx ry h
  obtain ⟨a, b, ks, ls, r, rfl, rfl, ea, eb, hits, q⟩ := h
  obtain rfl : v = Value.ref a := rx
  obtain rfl : u = Value.ref b := ry
  obtain ⟨_, ya, xs, ra, da⟩ := dt_rd I.hok ea
  obtain ⟨_, yb, ys, rb, db⟩ := dt_rd I.hok eb
  have la : ks.length = xs.length := Paired.length ra
  have lb : ls.length = ys.length := Paired.length rb
  have conv : ∀ (ks : List (List Key × V)) (xs : List (List Key × Addr × Value)) (r : Bool), KT H ks xs → HitsT X.K H ls ks r → HitsH X.A.in1 s ys xs r := by
    intro ks xs r hk hh
    induction hh generalizing xs with
    | nil => cases hk; exact .nil
    | @miss k v rest hn =>
      cases hk with
      | @cons _ q _ qs h t =>
        obtain ⟨k', p⟩ := q
        obtain ⟨h1, _, _⟩ := h
        have h1 : k = k' := h1
        subst h1
        refine .miss ?_
        have z := rb.val k
        rw [hn] at z
        cases e : atKey ys k with
        | none => rfl
        | some y => rw [e] at z; exact z.elim
    | @hit k v v' d d' rest b hv hd hd' pd pd' dd hr ih =>
      cases hk with
      | @cons _ q _ qs h t =>
        obtain ⟨k', p⟩ := q
        obtain ⟨h1, _, h3⟩ := h
        have h1 : k = k' := h1
        subst h1
        have z := rb.val k
        rw [hv] at z
        cases e : atKey ys k with
        | none => rw [e] at z; exact z.elim
        | some y =>
          rw [e] at z
          obtain ⟨as, r1⟩ := Dp.reads I d v p.2 hd h3
          obtain ⟨bs, r2⟩ := Dp.reads I d' v' y.2 hd' z
          exact .hit e (SeqAt.eqAt_plain d d' X.A.in1 s p.2 y.2 as bs r1 r2 pd pd' (by show X.A.units + 1 + _ < cLine; omega)) (ih _ t)
  refine heq_eq (knd := tupleKind (mixKind X.prog X.w)) (r := r) (by show X.A.units + 1 < cLine; omega) ya yb da db (by omega) (fun e => conv ks xs r ra (hits (by omega))) ⟨.bl _, H, I, rfl, ?_⟩
  rw [← la, ← lb]
  exact q
end
end Yd
namespace Yd
open PySem L2
/-! ### o as *o: an instance whose __iter__ gives the iterator of a dict with tuple keys, with a __len__ of its own -/
section
open PySem.W PySem.Calls
variable {X : Cx} {pins : List (Addr × Obj)} {σ : St} {H : Hp} {s : Shared} {A : Around}
theorem env0_sub {n : Nat} (sb : Sub X n A) (I : Inv X pins σ H s) : Env0 X.prog X.w X.K X.mg X.base A X.stack s H := by
  have e := I.env0
  exact ⟨by rw [sb.fr]; exact e.frames, e.mod, e.bs, e.bsz, e.funs, e.frf, e.hok, e.bare⟩
variable {k : Nat} {f C : Addr} {fd : FuncData} {ps : List Str} {us : List Value} {vs : List V} {Q : VK} {E : Value → Shared → Prop} {E0 : XK}
/-- a call, somewhere below the running body, of a def that lets nothing out -/
theorem run_sub {sp : Sp} (sb : Sub X k A) (F : FnOk X.prog X.w X.K X.mg X.base CX0 k f fd ps sp) (hb : Binds X.K fd ps []) (I : Inv X pins σ H s) (r : Vals vs us) (h : sp vs H Q E0) :
    wpAny (model X.prog X.w) A (call (.ref f) us) (EP X pins σ Q) E s := by
  have hl : (us ++ []).length = ps.length := by rw [List.append_nil, ← r.length]; exact F.len _ _ _ _ h
  have b := hb s us I.kIn hl
  rw [List.append_nil] at b
  refine wpAny_call (codeAny_mono (F.run A X.stack s H ⟨us, []⟩ us vs Q E0 sb.room (env0_sub sb I) b r h) fun r s' hq => ?_)
  match r, hq with
  | .ok (.ret u), hq => exact I.after hq
theorem run_subN {sp : Nat → Sp} (sb : Sub X k A) (F : FnN X.prog X.w X.K X.mg X.base k f fd ps sp) (hb : Binds X.K fd ps []) (I : Inv X pins σ H s) (r : Vals vs us) (h : sp s.heap.objs.size vs H Q E0) :
    wpAny (model X.prog X.w) A (call (.ref f) us) (EP X pins σ Q) E s := by
  have hl : (us ++ []).length = ps.length := by rw [List.append_nil, ← r.length]; exact F.len _ _ _ _ _ h
  have b := hb s us I.kIn hl
  rw [List.append_nil] at b
  refine wpAny_call (codeAny_mono (F.run A X.stack s H ⟨us, []⟩ us vs Q E0 sb.room (env0_sub sb I) b r h) fun r s' hq => ?_)
  match r, hq with
  | .ok (.ret u), hq => exact I.after hq
/-- a record of ours is pinned -/
theorem pinN {u : Addr} {o : Obj} (I : Inv X pins σ H s) (hu : s.heap.get? u = some o) (hn : H u = none) (hL : u ≠ X.env.locals) (hf : u ∉ X.fs) (hd : ∀ v, o.data ≠ .cell v) : Inv X ((u, o) :: pins) σ H s :=
  I.pins_of fun p hp => by
    rcases List.mem_cons.mp hp with rfl | hp
    · exact ⟨hu, hn, hL, hf, hd⟩
    · exact I.pin p (List.mem_append_right _ hp)
theorem pinO {u : Addr} {o : Obj} (I : Inv X ((u, o) :: pins) σ H s) : Inv X pins σ H s := I.pins_of fun p hp => I.pin p (List.mem_append_right _ (List.mem_cons_of_mem _ hp))
/-- how long o says that it is -/
theorem hint_own {spl : Sp} {dx : Addr} {fs : List (Str × V)} {a : Addr} {Q : Bool → Shared → Prop} (sb : Sub X (k + 1) A) (c : OpC X.K C "__len__" f) (F : FnOk X.prog X.w X.K X.mg X.base CX0 k f fd ps spl) (hb : Binds X.K fd ps []) (I : Inv X pins σ H s)
    (ha : H a = some (.ins C dx fs)) (h : spl [.ref a] H (fun v H' => H' = H ∧ ∃ n : Nat, v = .int n ∧ n ≤ sizeLine) E0) (hQ : ∀ b s', Inv X pins σ H s' → Q b s') :
    wpAny (model X.prog X.w) A (Builtin.List.listLengthHint (.ref a)) Q E s := by
  obtain ⟨m, hF⟩ := I.fr
  obtain ⟨mA, O, _⟩ := ins_get I.hok ha
  obtain ⟨oa, J, _⟩ := O.look
  unfold Builtin.List.listLengthHint
  refine wpAny_bind (wpAny_bind (J.type.here ((looks_findIn I.kIn c.at_).here ?_)))
  refine KFB.if_not rfl ?_
  refine KFB.if_so rfl ?_
  refine wpAny_bind (wpAny_rule ?_)
  refine wpAny_bind (wpAny_attempt (len_K hF I.ok.mod.kin J c.at_ c.fn (wpAny_mono (run_sub sb.in1 F hb I (us := [.ref a]) (vs := [.ref a]) (.cons rfl .nil) h) (fun r s1 ⟨z, H1, I1, rz, eH, n, ez, hn⟩ => ?_) fun _ _ z => z)))
  subst ez
  subst eH
  obtain ⟨t, rfl⟩ := (show ∃ t, r = Value.int (n : Int) t from rz)
  have h63 : (n : Int) < 2 ^ 63 := by
    have : sizeLine < 2 ^ 63 := by decide
    omega
  refine ⟨⟨Int.natCast_nonneg n, h63⟩, ?_⟩
  refine wpAny_bind (wpAny_pure ?_)
  refine wpAny_ite_split (fun z => ?_) (fun _ => wpAny_pure (hQ _ _ (I1.tok _)))
  exfalso
  have : ¬ (n > sizeLine) := by omega
  simp [Builtin.List.listTooLong] at z
  omega
theorem kt_up {H H2 : Hp} {kvs : List (List Key × V)} {ks : List (List Key × Addr × Value)} (up : ∀ b xs, H2 b = some (.tup xs) → H b = some (.tup xs)) (pr : KT H2 kvs ks) : KT H kvs ks := by
  induction pr with
  | nil => exact .nil
  | cons h t ih => exact .cons ⟨h.1, up _ _ h.2.1, h.2.2⟩ ih
/-- the class: its __iter__ and its __len__ -/
structure StarC (K : Frag) (C fi fl : Addr) : Prop where
  it : OpC K C "__iter__" fi
  ln : OpC K C "__len__" fl
section
variable {fi fl a d : Addr} {fdi fdl : FuncData} {psi psl : List Str} {sp : Nat → Sp} {spl : Sp} {dx : Addr} {fs : List (Str × V)} {od : Obj} {kvs : List (List Key × V)}
/-- where the list S takes in what o's iterator gives -/
theorem own_ext {S : Addr} {R : Result → Shared → Prop} (c : StarC X.K C fi fl) (FI : FnN X.prog X.w X.K X.mg X.base k fi fdi psi sp) (bI : Binds X.K fdi psi []) (FL : FnOk X.prog X.w X.K X.mg X.base CX0 k fl fdl psl spl) (bL : Binds X.K fdl psl [])
    (hr : Room (k + 2) X.A) (hh : X.A.handled = none) (fpS : FpOk X pins H S) (I2 : Inv X ((S, ({ cls := .type "list", data := .seq #[] 0 } : Obj)) :: pins) σ H s) (ha : H a = some (.ins C dx fs)) (hd : H d = some (.frz od (.dT kvs)))
    (hi : ∀ n, sp n [.ref a] H (fun v H2 => ∃ it, v = .ref it ∧ n ≤ it ∧ H it = none ∧ H2 = upd H it (KIo d it od kvs.length)) (fun _ _ _ => False))
    (hl : ∀ H2, H2 a = some (.ins C dx fs) → H2 d = some (.frz od (.dT kvs)) → spl [.ref a] H2 (fun v H' => H' = H2 ∧ ∃ n : Nat, v = .int n ∧ n ≤ sizeLine) (fun _ _ _ => False))
    (hR : ∀ (bs : List Addr) s' c', Inv X pins σ H s' → IsKeys H kvs bs → s'.heap.get? S = some { cls := .type "list", dict := none, data := .seq (bs.map Value.ref).toArray c', slots := #[] } → R (.ok (.ret (.ref S))) s') :
    wpAny (model X.prog X.w) X.A.in1 (Builtin.List.listExtendWith (.ref S) (.ref a) (.ref S))
      (fun fin s' => match fin with | .done f => R (.ok f) s' | .again c' => c'.quiet = true ∧ codeAny (model X.prog X.w) X.A c' R s') (fun e s' => R (.error e) s') s := by
  have sb1 : Sub X (k + 1) X.A.in1 := Sub.in1 (⟨hr, rfl⟩ : Sub X (k + 2) X.A)
  obtain ⟨m1, hF1⟩ := I2.fr
  obtain ⟨mA1, O1, _⟩ := ins_get I2.hok ha
  obtain ⟨oa1, J1, _⟩ := O1.look
  have hne : S ≠ a := fun z => by rw [← z, fpS.1] at ha; cases ha
  unfold Builtin.List.listExtendWith
  refine wpAny_bind (J1.type.here ?_)
  have h1 : Builtin.List.listSameRef (.ref S) (.ref a) = false := by simp [Builtin.List.listSameRef, hne]
  have h2 : (Value.ref C == Value.type "list") = false := rfl
  have h3 : (Value.ref C == Value.type "tuple") = false := rfl
  simp only [h1, h2, h3, Bool.or_false, Bool.false_eq_true, if_false]
  refine wpAny_bind (owit_iter hF1 I2.ok.mod.kin J1 c.it.at_ c.it.fn (wpAny_mono (run_subN (sb1.mono (Nat.le_succ k)) FI bI I2 (us := [.ref a]) (vs := [.ref a]) (.cons rfl .nil) (hi _)) (fun v s2 hv => ?_) fun _ _ z => z))
  obtain ⟨v', H2, I3, rv, it, ev, hn, hit, eH⟩ := hv
  subst ev
  obtain rfl : v = Value.ref it := rv
  have e2 : H2 it = some (KIo d it od kvs.length) := by rw [eH, upd_same]
  have young : X.s_0.heap.objs.size ≤ it := Nat.le_trans I2.sz hn
  have hd2 : H2 d = some (.frz od (.dT kvs)) := by rw [eH, upd_ne (ne_of_none hd hit)]; exact hd
  have ha2 : H2 a = some (.ins C dx fs) := by rw [eH, upd_ne (ne_of_none ha hit)]; exact ha
  have hT : s2.TypeIs (.ref it) "dict_keyiterator" := by
    obtain ⟨⟨es, ep, hdd, st⟩, _⟩ := (show ObjOk X.prog X.w H2 s2.heap it (KIo d it od kvs.length) from I3.hok it _ e2)
    exact let ⟨o, ho, hc, _⟩ := st; ⟨o, ho, hc⟩
  unfold OwitIt
  refine wpAny_specialOf hT PySem.F.slot_dict_keyiterator_next.lookup ?_
  refine wpAny_bind (wpAny_holding (hint_own sb1 c.ln FL bL I3 ha2 (hl H2 ha2 hd2) fun b s3 I4 => ?_))
  obtain ⟨⟨es, ep, hdd, st⟩, _⟩ := (show ObjOk X.prog X.w H2 s3.heap it (KIo d it od kvs.length) from I4.hok it _ e2)
  obtain ⟨hod, z, hsy, ks, pr, o', es', ep', ho, hx, hdt, he, hnd⟩ := I4.hok d _ hd2
  rw [hod] at ho
  cases ho
  rw [hdd] at hdt
  cases hdt
  have hS3 : s3.heap.get? S = some { cls := .type "list", data := .seq #[] 0 } := (I4.pin _ (List.mem_append_right _ (List.mem_cons_self ..))).1
  have l1 : es.size = ks.length := size_of_entries he
  have l2 : kvs.length = ks.length := Paired.length pr
  have hSit : S ≠ it := fun q => by
    have w := (I4.pin _ (List.mem_append_right _ (List.mem_cons_self ..))).2.1
    rw [q, e2] at w
    cases w
  have hSd : S ≠ d := fun q => by
    have w := (I4.pin _ (List.mem_append_right _ (List.mem_cons_self ..))).2.1
    rw [q, hd2] at w
    cases w
  have hdit : d ≠ it := ne_of hd2 e2 (fun z => nomatch z)
  have W := walks_raw (prog := X.prog) (w := X.w) (A := X.A.in1) (o := od) (es := es) (ep := ep) hh it d hdit hdd
  rw [l2, ← l1] at st
  have hSf : S ∉ [it, d] := by simp only [List.mem_cons, List.not_mem_nil, or_false, not_or]; exact ⟨hSit, hSd⟩
  have I5 : Inv X pins σ (ItX.dropH H2 it) s3 := by
    have w := e2
    unfold KIo at w
    exact ItX.inv_drop (pinO I4) w
  have fpI : FpOk X pins (ItX.dropH H2 it) it := ItX.inv_fp (pinO I4) e2 young
  have hdrop : ItX.dropH H2 it = H := by rw [eH]; exact ItX.dropH_upd hit
  rw [hdrop] at I5 fpI
  have pr' : KT H kvs ks := by
    have up : ∀ b xs, H2 b = some (.tup xs) → H b = some (.tup xs) := fun b xs e => by
      have hb : b ≠ it := fun q => by rw [q, e2] at e; cases e
      rw [eH, upd_ne hb] at e
      exact e
    exact kt_up up pr
  -- the loop
  have key : ∀ (h : Heap) (c₁ tk : Nat), h.IsKeyIter it d 0 es.size ep ∧ h.get? d = some od → (∀ b o, b ≠ S → s3.heap.get? b = some o → h.get? b = some o) → h.get? S = some { cls := .type "list", data := .seq #[] c₁ } →
      codeAny (model X.prog X.w) X.A (.builtin "list.extend.loop" ⟨[.ref S, .ref it, .ref S], []⟩) R { s3 with heap := h, toks := tk } := by
    intro h c₁ tk hst hk hS₁
    refine codeAny_extend_loopS W.toS (by omega) S hSf (.ref S) es.size 0 _ #[] c₁ rfl (Nat.zero_le _) hst hS₁ (ItemsOf.nil _) fun s' acc' c' hm hS' hacc => ?_
    have ke : ∀ b o, b ∉ [S, it] → s3.heap.get? b = some o → s'.heap.get? b = some o := fun b o hb e => by
      simp only [List.mem_cons, List.not_mem_nil, or_false, not_or] at hb
      exact hm.heap b o (by simp only [List.mem_cons, List.not_mem_nil, or_false, not_or]; exact hb) (hk b o hb.1 e)
    have ea : acc'.toList = ks.map fun x => Value.ref x.2.1 := by
      have hll : acc'.toList.length = ks.length := by rw [Array.length_toList, hacc.1]; exact l1
      apply List.ext_getElem?
      intro j
      rw [List.getElem?_map]
      cases hj : acc'.toList[j]? with
      | none =>
        have h1 := List.getElem?_eq_none_iff.mp hj
        rw [List.getElem?_eq_none (by omega)]
        all_goals rfl
      | some v =>
        obtain ⟨en, hen, hv⟩ := hacc.2 j v (by rw [← Array.getElem?_toList]; exact hj)
        have qe := entry_at he j
        rw [hen] at qe
        cases hb : ks[j]? with
        | none =>
          rw [hb] at qe
          exact nomatch (show some en = none from qe)
        | some b =>
          rw [hb] at qe
          have e2 : en = entryOfKey (tupleKind (mixKind X.prog X.w)) b := Option.some.inj qe
          rw [hv, e2]
          all_goals rfl
    have eb : acc'.toList = (ks.map fun x => x.2.1).map Value.ref := by rw [ea, List.map_map]; all_goals rfl
    have ec : acc' = ((ks.map fun x => x.2.1).map Value.ref).toArray := by rw [← eb]
    rw [ec] at hS'
    have es' := Moved.eq_with hm
    have J6 : Inv X pins σ H { s3 with heap := s'.heap, toks := s'.toks } := Inv.turnedL (ch := [S, it]) (t' := s'.toks) I5 ke fun b hb => by
      rcases List.mem_cons.mp hb with q | q
      · rw [q]; exact fpS
      · rw [List.mem_singleton.mp q]; exact fpI
    exact hR _ s' c' (by rw [es']; exact J6) (isKeys_of pr') hS'
  refine wpAny_ite_split (fun _ => ?_) (fun _ => wpAny_pure ⟨plainId_quiet PySem.F.plain_extend_loop _, key s3.heap 0 s3.toks ⟨st, hod⟩ (fun b o _ e => e) hS3⟩)
  refine wpAny_bind (wpAny_rule ?_)
  refine wpAny_bind ?_
  show wpAny _ _ (updateSeq S (·.push .none) >>= fun _ => updateSeq S (·.pop)) _ _ _
  refine wpAny_bind (wpAny_updateSeq hS3 rfl ?_)
  have hS₂ := Heap.get?_update_self (Obj.mapSeq (·.push Value.none)) hS3 rfl
  refine wpAny_updateSeq (hz := by seq_fits) hS₂ rfl ?_
  have hS₃ := Heap.get?_update_self (Obj.mapSeq (·.pop)) hS₂ rfl
  refine wpAny_pure ⟨plainId_quiet PySem.F.plain_extend_loop _, key _ _ _ ?_ (fun b o hb e => ?_) hS₃⟩
  · refine W.frame 0 _ _ ⟨st, hod⟩ fun b hb o e => ?_
    have hbS : b ≠ S := fun h => hSf (h ▸ hb)
    exact (Heap.get?_update_other _ _ (Ne.symm hbS)).trans ((Heap.get?_update_other _ _ (Ne.symm hbS)).trans e)
  · exact (Heap.get?_update_other _ _ (Ne.symm hb)).trans ((Heap.get?_update_other _ _ (Ne.symm hb)).trans e)
theorem star_own {Q : List Value → Shared → Prop} (c : StarC X.K C fi fl) (FI : FnN X.prog X.w X.K X.mg X.base k fi fdi psi sp) (bI : Binds X.K fdi psi []) (FL : FnOk X.prog X.w X.K X.mg X.base CX0 k fl fdl psl spl) (bL : Binds X.K fdl psl [])
    (hr : Room (k + 2) X.A) (hc : X.calm = true) (I : Inv X pins σ H s) (ha : H a = some (.ins C dx fs)) (hd : H d = some (.frz od (.dT kvs)))
    (hi : ∀ n, sp n [.ref a] H (fun v H2 => ∃ it, v = .ref it ∧ n ≤ it ∧ H it = none ∧ H2 = upd H it (KIo d it od kvs.length)) (fun _ _ _ => False))
    (hl : ∀ H2, H2 a = some (.ins C dx fs) → H2 d = some (.frz od (.dT kvs)) → spl [.ref a] H2 (fun v H' => H' = H2 ∧ ∃ n : Nat, v = .int n ∧ n ≤ sizeLine) (fun _ _ _ => False))
    (hQ : ∀ bs s', Inv X pins σ H s' → IsKeys H kvs bs → Q (bs.map Value.ref) s') : StarOf (model X.prog X.w) X.A E (.ref a) Q s := by
  obtain ⟨mA, O, _⟩ := ins_get I.hok ha
  obtain ⟨oa, J, _⟩ := O.look
  unfold StarOf notIterableAtAll
  refine wpAny_bind (wpAny_bind (J.type.here ((looks_findIn I.kIn c.it.at_).here ?_)))
  refine wpAny_pure ⟨rfl, ?_⟩
  have fpS : FpOk X pins H s.heap.objs.size := I.fpOk (Nat.le_refl _) (I.hok.fresh (Nat.le_refl _))
  have new : (s.heap.push { cls := .type "list", data := .seq ([] : List Value).toArray }).get? s.heap.objs.size = some { cls := .type "list", data := .seq #[] 0 } := Heap.get?_push_size _ rfl
  unfold collect
  refine wpAny_bind (wpAny_runValue (codeAny_builtin F.entry_proto_collect ?_))
  rw [Around.under_plainId F.plain_proto_collect _]
  refine wpAny_bind (m := newList []) (wpAny_newObj_type (wpAny_pure ⟨plainId_quiet F.plain_list_iadd _, codeAny_builtin F.entry_list_iadd ?_⟩))
  rw [Around.under_plainId F.plain_list_iadd _]
  have I1 : Inv X pins σ H { s with heap := s.heap.push { cls := .type "list", data := .seq ([] : List Value).toArray } } := I.kept (t' := s.toks) fun b o q => Heap.get?_push_of_some _ q
  have I2 := pinN (o := { cls := .type "list", data := .seq #[] 0 }) I1 new fpS.1 fpS.2.1 fpS.2.2.1 (fun v z => by cases z)
  refine wpAny_mono (own_ext (S := s.heap.objs.size) (R := fun rr s' => rr = .ok (.ret (.ref s.heap.objs.size)) ∧ ∃ (bs : List Addr) (c' : Nat), s'.heap.get? s.heap.objs.size = some { cls := .type "list", dict := none, data := .seq (bs.map Value.ref).toArray c', slots := #[] } ∧ Q (bs.map Value.ref) s')
    c FI bI FL bL hr (I.ok.hd hc) fpS I2 ha hd hi hl (fun bs s' c' I' ik e => ⟨rfl, bs, c', e, hQ bs s' I' ik⟩)) (fun fin s' z => ?_) fun e s' z => absurd z.1 (by simp)
  cases fin with
  | done f =>
    obtain ⟨e, bs, c', hS, q⟩ := z
    cases e
    exact wpAny_bind (m := load s.heap.objs.size) (wpAny_load hS (wpAny_pure (by simpa using q)))
  | again c2 =>
    refine ⟨z.1, codeAny_mono z.2 fun rr s'' y => ?_⟩
    obtain ⟨e, bs, c', hS, q⟩ := y
    cases e
    exact wpAny_bind (m := load s.heap.objs.size) (wpAny_load hS (wpAny_pure (by simpa using q)))
/-- [.., *o, ..] -/
def tStarO (C : Addr) (sp : Nat → Sp) (spl : Sp) (te : TE) (t : TA) : TA := fun σ H Q => te σ H fun x H1 => ∃ a dx fs d od kvs, x = V.ref a ∧ H1 a = some (.ins C dx fs) ∧ H1 d = some (.frz od (.dT kvs)) ∧
  (∀ n, sp n [.ref a] H1 (fun v H2 => ∃ it, v = .ref it ∧ n ≤ it ∧ H1 it = none ∧ H2 = upd H1 it (KIo d it od kvs.length)) (fun _ _ _ => False)) ∧
  (∀ H2, H2 a = some (.ins C dx fs) → H2 d = some (.frz od (.dT kvs)) → spl [.ref a] H2 (fun v H' => H' = H2 ∧ ∃ n : Nat, v = .int n ∧ n ≤ sizeLine) (fun _ _ _ => False)) ∧
  ∀ bs, IsKeys H1 kvs bs → t σ H1 fun ys H2 => Q (bs.map V.ref ++ ys) H2
theorem pa_starO {e : Expr} {es : List Expr} {te : TE} {t : TA} {p : Pos} (c : StarC X.K C fi fl) (FI : FnN X.prog X.w X.K X.mg X.base k fi fdi psi sp) (bI : Binds X.K fdi psi []) (FL : FnOk X.prog X.w X.K X.mg X.base CX0 k fl fdl psl spl) (bL : Binds X.K fdl psl [])
    (hr : Room (k + 2) X.A) (hc : X.calm = true) (he : PE X e te) (hrest : PA X es t) (hs : starEach (.Starred e p :: es) X.env = (true, eval e X.env) :: starEach es X.env := by rfl) : PA X (.Starred e p :: es) (tStarO C sp spl te t) := by
  refine ⟨fun pos pins s σ H Q I h => ?_⟩
  refine items_star (thn (he.run pins s σ H _ I h) fun v s1 ⟨y, H1, I1, ry, a, dx, fs, d, od, kvs, ey, ha, hd, hi, hl, q⟩ => ?_) hs
  subst ey
  obtain rfl : v = Value.ref a := ry
  refine star_own c FI bI FL bL hr hc I1 ha hd hi hl fun bs s2 I2 ik => ?_
  exact thn (hrest.run pos pins s2 σ H1 _ I2 (q bs ik)) fun ws s3 ⟨vs, H3, I3, r3, q3⟩ => ⟨bs.map V.ref ++ vs, H3, I3, (vals_refs bs).append r3, q3⟩
end
end
end Yd
namespace Yd
open PySem L2
/-! ### the class Hold -/
section
variable {K : PySem.W.Frag} {a : Addr} {xs : List V} {g : TG} {tt : TT} {tk tv te : TE} {vs : List Nat} {σ : St} {H1 : Hp} {D : Addr} {Qd : Hp → Prop}
theorem dp_list (Pv : Nat → Hp → Prop) (h0 : Pv 0 (upd H1 D (.dT []))) (hl : ∀ i H, i ≤ xs.length → Pv i H → SqL K H a xs)
    (hs : ∀ i x H, xs[i]? = some x → Pv i H → g x (wipe σ vs) H fun σ2 H2 => wipe σ2 vs = wipe σ vs ∧ tt σ2 H2 fun b H3 => if b = true then pairTurn D tk tv σ2 H3 (Pv (i + 1)) else Pv (i + 1) H3) (hd : ∀ H, Pv xs.length H → Qd H) :
    ∃ W : Nat → Nat → Hp → Prop, (∃ m, W 0 m (upd H1 D (.dT []))) ∧ ∀ i m H, W i m H →
      ((Itl K a).stop i H ∧ Qd H) ∨ ((Itl K a).go i H ∧ ∃ Nx : Hp → Prop, (∀ H', Nx H' → ∃ m', m' < m ∧ W (i + 1) m' H') ∧ ∀ x H', (Itl K a).yld i H x H' → g x (wipe σ vs) H' fun σ2 H2 => wipe σ2 vs = wipe σ vs ∧ tt σ2 H2 fun b H3 => if b = true then pairTurn D tk tv σ2 H3 Nx else Nx H3) :=
  dp_run (n := xs.length) Pv h0 (fun i H hi p => ⟨xs, xs[i], hl i H (by omega) p, List.getElem?_eq_getElem hi⟩) (fun H p => ⟨xs, hl _ H (Nat.le_refl _) p, Nat.le_refl _⟩) (fun i x H H' hi p y => by obtain ⟨e, y⟩ := y; subst e; exact hs i x _ (y xs (hl i _ (by omega) p)) p) hd
theorem dp_tupl (Pv : Nat → Hp → Prop) (h0 : Pv 0 (upd H1 D (.dT []))) (hl : ∀ i H, i ≤ xs.length → Pv i H → SqT K H a xs)
    (hs : ∀ i x H, xs[i]? = some x → Pv i H → g x (wipe σ vs) H fun σ2 H2 => wipe σ2 vs = wipe σ vs ∧ tt σ2 H2 fun b H3 => if b = true then pairTurn D tk tv σ2 H3 (Pv (i + 1)) else Pv (i + 1) H3) (hd : ∀ H, Pv xs.length H → Qd H) :
    ∃ W : Nat → Nat → Hp → Prop, (∃ m, W 0 m (upd H1 D (.dT []))) ∧ ∀ i m H, W i m H →
      ((Itt K a).stop i H ∧ Qd H) ∨ ((Itt K a).go i H ∧ ∃ Nx : Hp → Prop, (∀ H', Nx H' → ∃ m', m' < m ∧ W (i + 1) m' H') ∧ ∀ x H', (Itt K a).yld i H x H' → g x (wipe σ vs) H' fun σ2 H2 => wipe σ2 vs = wipe σ vs ∧ tt σ2 H2 fun b H3 => if b = true then pairTurn D tk tv σ2 H3 Nx else Nx H3) :=
  dp_run (n := xs.length) Pv h0 (fun i H hi p => ⟨xs, xs[i], hl i H (by omega) p, List.getElem?_eq_getElem hi⟩) (fun H p => ⟨xs, hl _ H (Nat.le_refl _) p, Nat.le_refl _⟩) (fun i x H H' hi p y => by obtain ⟨e, y⟩ := y; subst e; exact hs i x _ (y xs (hl i _ (by omega) p)) p) hd
/-- a list comprehension over the spots of a locked dict -/
theorem lc_spots {d : Addr} {od : Obj} {ps : List Pr} (Pv : Nat → Hp → Prop) (h0 : Pv 0 (upd H1 D (.lst []))) (hl : ∀ i H, i ≤ ps.length → Pv i H → H d = some (.frz od (.dT (pD ps))))
    (hs : ∀ i p q H, ps[i]? = some p → H q = some (.tup [.str p.1, .str p.2]) → Pv i H → g (.ref q) (wipe σ vs) H fun σ2 H2 => wipe σ2 vs = wipe σ vs ∧ tt σ2 H2 fun b H3 =>
      if b = true then te σ2 H3 fun y H4 => ∃ acc, H4 D = some (.lst acc) ∧ acc.length < sizeLine ∧ Pv (i + 1) (upd H4 D (.lst (acc ++ [y]))) else Pv (i + 1) H3) (hd : ∀ H, Pv ps.length H → Qd H) :
    ∃ W : Nat → Nat → Hp → Prop, (∃ m, W 0 m (upd H1 D (.lst []))) ∧ ∀ i m H, W i m H →
      ((Itkt d od (pD ps)).stop i H ∧ Qd H) ∨ ((Itkt d od (pD ps)).go i H ∧ ∃ Nx : Hp → Prop, (∀ H', Nx H' → ∃ m', m' < m ∧ W (i + 1) m' H') ∧ ∀ x H', (Itkt d od (pD ps)).yld i H x H' → g x (wipe σ vs) H' fun σ2 H2 => wipe σ2 vs = wipe σ vs ∧ tt σ2 H2 fun b H3 =>
        if b = true then te σ2 H3 fun y H4 => ∃ acc, H4 D = some (.lst acc) ∧ acc.length < sizeLine ∧ Nx (upd H4 D (.lst (acc ++ [y]))) else Nx H3) :=
  lc_run (n := ps.length) Pv h0 (fun i H hi p => ⟨hl i H (by omega) p, by rw [pD_len]; exact hi⟩) (fun H p => ⟨hl _ H (Nat.le_refl _) p, by rw [pD_len]; exact Nat.le_refl _⟩) (fun i x H H' hi p y => by
    obtain ⟨e, k, v, q, hk, ex, hq⟩ := y
    subst e ex
    unfold pD at hk
    rw [List.getElem?_map] at hk
    cases hp : ps[i]? with
    | none => rw [hp] at hk; cases hk
    | some pr =>
      rw [hp] at hk
      obtain ⟨rfl, _⟩ := Prod.mk.inj (Option.some.inj hk)
      exact hs i pr q _ hp hq p) hd
end
theorem same_seqT {K : PySem.W.Frag} {H H' : Hp} {a : Addr} {xs : List V} (s : Same H H') (h : SqT K H a xs) : SqT K H' a xs := by
  rcases h with (h | ⟨o, h⟩) | h
  · exact .inl (.inl (s _ _ h))
  · exact .inl (.inr ⟨o, s _ _ h⟩)
  · exact .inr h
structure HCls (K : PySem.W.Frag) (C : Addr) : Prop where
  cls : Cls K C
  nS : NoAttr K C "_spots"
/-- a hold of these spots, its dict at d -/
structure HoldAt (H : Hp) (C a d : Addr) (ps : List Pr) : Prop where
  ins : ∃ dx, H a = some (.ins C dx [("_spots", .ref d)])
  dict : H d = some (.dT (pD ps))
  nd : ps.Nodup
theorem HoldAt.keep {H H' : Hp} {C a d : Addr} {ps : List Pr} (h : HoldAt H C a d ps) (s : Same H H') : HoldAt H' C a d ps := ⟨let ⟨dx, e⟩ := h.ins; ⟨dx, s _ _ e⟩, s _ _ h.dict, h.nd⟩
theorem PairsAt.same {H H' : Hp} {xs : List V} {ps : List Pr} (h : PairsAt H xs ps) (s : Same H H') : PairsAt H' xs ps := h.keep fun t ys e => s t _ e
/-- a list or a tuple of pairs -/
def RowsP (K : PySem.W.Frag) (H : Hp) (l : Addr) (ps : List Pr) : Prop := ∃ xs, PairsAt H xs ps ∧ (SqL K H l xs ∨ SqT K H l xs)
def spHInit (K : PySem.W.Frag) : Sp := fun vs H Q _ => ∃ (a C dx l : Addr) (ps : List Pr), vs = [.ref a, .ref l] ∧ H a = some (.ins C dx []) ∧ HCls K C ∧ RowsP K H l ps ∧ ps.length ≤ 1000 ∧
  ∀ d H', H d = none → Gro a H H' → H' a = some (.ins C dx [("_spots", .ref d)]) → H' d = some (.dT (pD (onceP ps))) → Q .non H'
def spHIter (K : PySem.W.Frag) : Nat → Sp := fun n vs H Q _ => ∃ (a C dx d : Addr) (od : Obj) (ps : List Pr), vs = [.ref a] ∧ H a = some (.ins C dx [("_spots", .ref d)]) ∧ HCls K C ∧ H d = some (.frz od (.dT (pD ps))) ∧
  ∀ it, H it = none → n ≤ it → Q (.ref it) (upd H it (KIo d it od (pD ps).length))
def spHLen (K : PySem.W.Frag) : Sp := fun vs H Q _ => ∃ (a C dx d : Addr) (ps : List Pr), vs = [.ref a] ∧ H a = some (.ins C dx [("_spots", .ref d)]) ∧ HCls K C ∧ Rd H d (.dT (pD ps)) ∧ Q (.int (ps.length : Nat)) H
def spHIn (K : PySem.W.Frag) : Sp := fun vs H Q _ => ∃ (a C dx d t : Addr) (ps : List Pr) (p : Pr), vs = [.ref a, .ref t] ∧ H a = some (.ins C dx [("_spots", .ref d)]) ∧ HCls K C ∧ Rd H d (.dT (pD ps)) ∧ H t = some (.tup [.str p.1, .str p.2]) ∧ Q (.bl (decide (p ∈ ps))) H
/-- len of a dict with tuple keys, locked or not -/
theorem call_lenT {X : Cx} : CallR X (.builtin "len") (fun xs H Q => ∃ (p : Addr) (kvs : List (List Key × V)), xs = [.ref p] ∧ Rd H p (.dT kvs) ∧ Q (.int ((kvs.length : Nat) : Int)) H) := by
  intro pins s σ H xs us Q I r h
  obtain ⟨p, kvs, rfl, hp, q⟩ := h
  obtain ⟨u, rfl, rx⟩ := vals1 r
  obtain rfl : u = .ref p := rx
  obtain ⟨z, hd, ys, rel, dd⟩ := dt_rd I.hok hp
  have hl : kvs.length = ys.length := Paired.length rel
  refine call_len_dictH hd dd (by rw [← hl]; rw [sizeLine_eq] at z; omega) ?_
  rw [← hl]
  exact ⟨.int ((kvs.length : Nat) : Int), H, I.tok _, ⟨_, rfl⟩, q⟩
section
variable {P : Program} {w : World} {K : PySem.W.Frag} {mg : Str → Option Value} {base : Heap}
theorem scHIter : FnScope ["self"] ["self"] (defScope sHoldIter) := ⟨rfl, rfl, rfl, by decide +kernel, rfl, by decide +kernel, by decide +kernel⟩
theorem ok_hIter {f : Addr} {fd : FuncData} (F : Fun K "__iter__" "Hold.__iter__" sHoldIter f fd) (hI : mg "iter" = none) : FnN P w K mg base 1 f fd ["self"] (spHIter K) := by
  refine fun_N F scHIter (fun n vs H Q E h => ?_) (fun cdv A outer s H vs Q E hr h => ?_)
  · obtain ⟨a, C, dx, d, od, ps, rfl, _⟩ := h
    rfl
  · obtain ⟨a, C, dx, d, od, ps, rfl, ha, hc, hd, k⟩ := h
    refine ⟨_, pss_one (ps_ret (pe_callB call_iterK (by rfl) hI (by decide +kernel) (pa_cons (pe_fld (pv 0) rfl) pa_nil))), ?_⟩
    exact ⟨_, rfl, a, C, dx, _, _, rfl, ha, hc.cls, hc.nS, rfl, d, od, _, rfl, .inr ⟨_, hd, rfl⟩, fun it h1 h2 => k it h1 h2⟩
theorem scHLen : FnScope ["self"] ["self"] (defScope sHoldLen) := ⟨rfl, rfl, rfl, by decide +kernel, rfl, by decide +kernel, by decide +kernel⟩
theorem ok_hLen {f : Addr} {fd : FuncData} (F : Fun K "__len__" "Hold.__len__" sHoldLen f fd) (hL : mg "len" = none) : FnOk P w K mg base CX0 1 f fd ["self"] (spHLen K) := by
  refine F.ok scHLen (fun vs H Q E h => ?_) (fun cdv A outer s H vs Q E hr h => ?_)
  · obtain ⟨a, C, dx, d, ps, rfl, _⟩ := h
    rfl
  · obtain ⟨a, C, dx, d, ps, rfl, ha, hc, hd, k⟩ := h
    refine ⟨_, pss_one (ps_ret (pe_callB call_lenT (by rfl) hL PySem.boot_len (pa_cons (pe_fld (pv 0) rfl) pa_nil))), ?_⟩
    refine ⟨_, rfl, a, C, dx, _, _, rfl, ha, hc.cls, hc.nS, rfl, d, _, rfl, hd, ?_⟩
    rw [pD_len]
    exact k
theorem scHIn : FnScope ["self", "x"] ["self", "x"] (defScope sHoldIn) := ⟨rfl, rfl, rfl, by decide +kernel, rfl, by decide +kernel, by decide +kernel⟩
theorem ok_hIn {f : Addr} {fd : FuncData} (F : Fun K "__contains__" "Hold.__contains__" sHoldIn f fd) : FnOk P w K mg base CX0 1 f fd ["self", "x"] (spHIn K) := by
  refine F.ok scHIn (fun vs H Q E h => ?_) (fun cdv A outer s H vs Q E hr h => ?_)
  · obtain ⟨a, C, dx, d, t, ps, p, rfl, _⟩ := h
    rfl
  · obtain ⟨a, C, dx, d, t, ps, p, rfl, ha, hc, hd, ht, k⟩ := h
    refine ⟨_, pss_one (ps_ret (pe_cmp (pc_din (hu_of hr) (pv 1) (pe_fld (pv 0) rfl)))), ?_⟩
    refine ⟨_, rfl, _, rfl, a, C, dx, _, _, rfl, ha, hc.cls, hc.nS, rfl, d, _, rfl, .inr ⟨_, kP p, t, hd, rfl, ht, rfl⟩, ?_⟩
    rw [pD_val]
    by_cases m : p ∈ ps
    · rw [if_pos m, decide_eq_true m] at *
      exact k
    · rw [if_neg m, decide_eq_false m] at *
      exact k
def nHInit : List Str := ["self", "rows", "kind", "standing"]
theorem scHInit : FnScope nHInit ["self", "rows"] (defScope sHoldInit) := ⟨rfl, rfl, rfl, by decide +kernel, rfl, by decide +kernel, by decide +kernel⟩
theorem ok_hInit {f : Addr} {fd : FuncData} {dvs : List V} (F : FunD K "__init__" "Hold.__init__" (defArgs sHoldInit) (defBody sHoldInit) (defScope sHoldInit) dvs [] f fd) : FnOk P w K mg base CX0 1 f fd ["self", "rows"] (spHInit K) := by
  refine F.ok scHInit (fun vs H Q E h => ?_) (fun cdv A outer s H vs Q E hr h => ?_)
  · obtain ⟨a, C, dx, l, ps, rfl, _⟩ := h
    rfl
  · obtain ⟨a, C, dx, l, ps, rfl, ha, hc, ⟨xs, hxs, hl⟩, hlen, k⟩ := h
    have hu := hu_of hr
    have turn : ∀ (D : Addr) (i : Nat) (x : V) (H' : Hp), H D = none → xs[i]? = some x → Same H H' → H' D = some (.dT (pD (onceP (ps.take i)))) → ∃ t p, x = .ref t ∧ ps[i]? = some p ∧ H' t = some (.tup [.str p.1, .str p.2]) ∧
        ∀ b, H' b = none → ∃ kvs k c, V.ref b = .ref c ∧ upd H' b (.tup [.str p.1, .str p.2]) c = some (.tup (List.map kV k)) ∧ upd H' b (.tup [.str p.1, .str p.2]) D = some (.dT kvs) ∧ kvs.length < sizeLine ∧
          (Same H (upd (upd H' b (.tup [.str p.1, .str p.2])) D (.dT (putK kvs k (.bl true)))) ∧ upd (upd H' b (.tup [.str p.1, .str p.2])) D (.dT (putK kvs k (.bl true))) D = some (.dT (pD (onceP (ps.take (i + 1)))))) := fun D i x H' hD hi s e => by
      obtain ⟨t, p, ex, hp, ht⟩ := PairsAt.get (hxs.same s) hi
      refine ⟨t, p, ex, hp, ht, fun b hb => ?_⟩
      have nDb : D ≠ b := ne_of_none e hb
      refine ⟨_, kP p, b, rfl, upd_same, by rw [upd_ne nDb]; exact e, ?_, fun c o q => ?_, ?_⟩
      · have q := onceP_len (ps.take i)
        rw [List.length_take] at q
        refine small1000 ?_
        rw [pD_len]
        omega
      · rw [upd_ne (ne_of_none q hD), upd_ne (ne_of_none (s c o q) hb)]
        exact s c o q
      · rw [upd_same, pD_put, onceP_more hp]
    have start : ∀ D, H D = none → Same H (upd H D (.dT [])) ∧ upd H D (.dT []) D = some (.dT (pD (onceP (ps.take 0)))) := fun D hD => ⟨fun b o e => by rw [upd_ne (ne_of_none e hD)]; exact e, upd_same⟩
    have lx : xs.length = ps.length := hxs.len
    have fin : ∀ (D : Addr) (H' : Hp), H D = none → Same H H' → H' D = some (.dT (pD (onceP (ps.take xs.length)))) → Q .non (upd H' a (.ins C dx [("_spots", .ref D)])) := fun D H' hD s e => by
      rw [lx, List.take_length] at e
      have naD : D ≠ a := (ne_of_none ha hD).symm
      exact k D _ hD (fun b o q n => by rw [upd_ne n]; exact s b o q) upd_same (by rw [upd_ne naD]; exact e)
    rcases hl with hl | hl
    · refine ⟨_, pss_one (ps_fld (pv 0) (pe_dp (own := [("kind", 2), ("standing", 3)]) (g := gTup K 2 (gCons (gName 2) (gCons (gName 3) gNil))) (tt := tYes) (Nat.lt_trans (Nat.lt_succ_self _) hu) rfl scHInit.nd (pi_list (pv 1)) (blkOk_by (N := nHInit) (sc := defScope sHoldInit) (by decide +kernel))
        (fun _ _ _ _ _ => pg_tup (by rfl) (pgs_cons (pg_name (i := 2) scHInit.nd rfl (Or.inl rfl)) (pgs_cons (pg_name (i := 3) scHInit.nd rfl (Or.inl rfl)) pgs_nil))) (fun _ _ _ _ _ => pts_nil)
        (fun _ _ _ _ _ => pe_tup (pa_cons (pv 2) (pa_cons (pv 3) pa_nil))) (fun _ _ _ _ _ => pe_bl)) rfl), ?_⟩
      refine ⟨_, rfl, l, rfl, ⟨_, hl⟩, fun D hD => ?_⟩
      refine dp_list (K := K) (a := l) (xs := xs) (fun i H' => Same H H' ∧ H' D = some (.dT (pD (onceP (ps.take i))))) (start D hD) (fun i H' _ h => h.1.seq hl) (fun i x H' hi h => ?_) fun H' h => ?_
      · obtain ⟨t, p, rfl, hp, ht, go⟩ := turn D i x H' hD hi h.1 h.2
        refine ⟨t, _, rfl, SqT.of ht, rfl, _, _, rfl, _, _, rfl, rfl, rfl, ?_⟩
        exact ⟨_, rfl, _, rfl, (by show 2 ≤ sizeLine; decide), fun b hb => go b hb⟩
      · exact ⟨_, rfl, a, C, dx, _, rfl, h.1 _ _ ha, hc.cls, hc.nS, (by show 0 < 1000; decide), fin D H' hD h.1 h.2⟩
    · refine ⟨_, pss_one (ps_fld (pv 0) (pe_dp (own := [("kind", 2), ("standing", 3)]) (g := gTup K 2 (gCons (gName 2) (gCons (gName 3) gNil))) (tt := tYes) (Nat.lt_trans (Nat.lt_succ_self _) hu) rfl scHInit.nd (pi_tup (pv 1)) (blkOk_by (N := nHInit) (sc := defScope sHoldInit) (by decide +kernel))
        (fun _ _ _ _ _ => pg_tup (by rfl) (pgs_cons (pg_name (i := 2) scHInit.nd rfl (Or.inl rfl)) (pgs_cons (pg_name (i := 3) scHInit.nd rfl (Or.inl rfl)) pgs_nil))) (fun _ _ _ _ _ => pts_nil)
        (fun _ _ _ _ _ => pe_tup (pa_cons (pv 2) (pa_cons (pv 3) pa_nil))) (fun _ _ _ _ _ => pe_bl)) rfl), ?_⟩
      refine ⟨_, rfl, l, rfl, ⟨_, hl⟩, fun D hD => ?_⟩
      refine dp_tupl (K := K) (a := l) (xs := xs) (fun i H' => Same H H' ∧ H' D = some (.dT (pD (onceP (ps.take i))))) (start D hD) (fun i H' _ h => same_seqT h.1 hl) (fun i x H' hi h => ?_) fun H' h => ?_
      · obtain ⟨t, p, rfl, hp, ht, go⟩ := turn D i x H' hD hi h.1 h.2
        refine ⟨t, _, rfl, SqT.of ht, rfl, _, _, rfl, _, _, rfl, rfl, rfl, ?_⟩
        exact ⟨_, rfl, _, rfl, (by show 2 ≤ sizeLine; decide), fun b hb => go b hb⟩
      · exact ⟨_, rfl, a, C, dx, _, rfl, h.1 _ _ ha, hc.cls, hc.nS, (by show 0 < 1000; decide), fin D H' hD h.1 h.2⟩
end
end Yd
namespace Yd
open PySem L2
/-! ### Hold: comparisons and operators -/
/-- the class as it stands: what is known of it -/
structure HoldC (P : Program) (w : World) (K : PySem.W.Frag) (mg : Str → Option Value) (base : Heap) (C : Addr) : Prop where
  h : HCls K C
  g : mg "Hold" = some (.ref C)
  ca : PySem.W.findIn K (.ref C) "__class__" = some (some (.builtin "object.__class__"))
  cn : PySem.W.specialIn K (.builtin "object.__class__") "__get__" = some (some (.builtin "getset_descriptor.__get__"))
  ct : PySem.W.takesIn K (.builtin "object.__class__") = some true
  cm : PySem.W.mroIn K C (.type "object") = some true
  kH : PySem.W.kitOne K (.ref C) (.ref C) = some true
  kL : PySem.W.kitOne K (.type "list") (.ref C) = some false
  sf : PySem.W.selfFirst K C = true
  nf : PySem.W.notFirst K C (.type "list") = true
  st : ∃ fi fl fdi fdl, StarC K C fi fl ∧ FnN P w K mg base 1 fi fdi ["self"] (spHIter K) ∧ Binds K fdi ["self"] [] ∧ FnOk P w K mg base CX0 1 fl fdl ["self"] (spHLen K) ∧ Binds K fdl ["self"] []
  inn : ∃ f fd, OpC K C "__contains__" f ∧ FnOk P w K mg base CX0 1 f fd ["self", "x"] (spHIn K) ∧ Binds K fd ["self", "x"] []
  ini : ∃ f fd e ee, Mk K C f ∧ FnOk P w K mg base CX0 1 f fd ["self", "rows"] (spHInit K) ∧ Binds K fd ["self", "rows"] [] ∧ Binds K fd ["self", "rows"] [ee] ∧ RelV (.ref e) ee ∧ ∀ H, SqT K H e []
theorem HoldAt.ty {P : Program} {w : World} {K : PySem.W.Frag} {mg : Str → Option Value} {base : Heap} {C a d : Addr} {H : Hp} {ps : List Pr} (h : HoldAt H C a d ps) (c : HoldC P w K mg base C) : TyX K H (.ref a) (.ref C) :=
  let ⟨_, e⟩ := h.ins; .base (.ins e c.h.cls c.ca c.cn c.ct c.cm)
theorem same_unlock {H H' : Hp} {d : Addr} {u : HO} (hd : H d = some u) (h : ∀ q o, H q = some o → q ≠ d → H' q = some o) : Same H (upd H' d u) := fun q o e => by
  by_cases n : q = d
  · subst n
    rw [upd_same, ← e, hd]
  · rw [upd_ne n]
    exact h q o e n
theorem HoldAt.rd {H H' : Hp} {C b d1 d2 : Addr} {ps qs : List Pr} {od : Obj} (h2 : HoldAt H C b d2 qs) (h1 : H d1 = some (.dT (pD ps))) (hk : ∀ q o, H q = some o → q ≠ d1 → H' q = some o) (hd : H' d1 = some (.frz od (.dT (pD ps)))) :
    (∃ dy, H' b = some (.ins C dy [("_spots", .ref d2)])) ∧ Rd H' d2 (.dT (pD qs)) := by
  obtain ⟨dy, e⟩ := h2.ins
  refine ⟨⟨dy, hk _ _ e (ne_of e h1 (fun z => nomatch z))⟩, ?_⟩
  by_cases n : d2 = d1
  · have q := h2.dict
    rw [n, h1] at q
    refine .inr ⟨od, ?_⟩
    rw [n, hd]
    rw [HO.dT.inj (Option.some.inj q)]
  · exact .inl (hk _ _ h2.dict n)
def onceP_id : ∀ {ps : List Pr}, ps.Nodup → onceP ps = ps := by
  suffices q : ∀ (l acc : List Pr), (acc ++ l).Nodup → l.foldl addP acc = acc ++ l from fun {ps} h => q ps [] h
  intro l
  induction l with
  | nil => intro acc _; simp
  | cons s l ih =>
    intro acc h
    rw [List.foldl_cons]
    have hs : s ∉ acc := fun m => by
      rw [List.nodup_append] at h
      exact h.2.2 s m s (List.mem_cons_self ..) rfl
    have e : addP acc s = acc ++ [s] := by unfold addP; rw [if_neg hs]
    rw [e, ih _ (by rw [List.append_assoc]; exact h), List.append_assoc]
    rfl
/-- the promise of a def that two holds are given to, which hands back a new one -/
def spHNew (K : PySem.W.Frag) (C : Addr) (op : List Pr → List Pr → List Pr) : Sp := fun vs H Q _ => ∃ (a b d1 d2 : Addr) (ps qs : List Pr), vs = [.ref a, .ref b] ∧ HoldAt H C a d1 ps ∧ HoldAt H C b d2 qs ∧ ps.length ≤ 500 ∧ qs.length ≤ 500 ∧
  ∀ c d' H', Same H H' → H c = none → H d' = none → HoldAt H' C c d' (op ps qs) → Q (.ref c) H'
def spHOr (K : PySem.W.Frag) (C : Addr) : Sp := fun vs H Q _ => ∃ (a b d1 d2 : Addr) (ps qs : List Pr), vs = [.ref a, .ref b] ∧ HoldAt H C a d1 ps ∧ HoldAt H C b d2 qs ∧ d1 ≠ d2 ∧ ps.length ≤ 500 ∧ qs.length ≤ 500 ∧
  ∀ c d' H', Same H H' → H c = none → H d' = none → HoldAt H' C c d' (onceP (ps ++ qs)) → Q (.ref c) H'
def spHLe (K : PySem.W.Frag) (C : Addr) : Sp := fun vs H Q _ => ∃ (a b d1 d2 : Addr) (ps qs : List Pr), vs = [.ref a, .ref b] ∧ HoldAt H C a d1 ps ∧ HoldAt H C b d2 qs ∧ ps.length ≤ 500 ∧ ∀ H', Same H H' → Q (.bl (ps.all fun p => decide (p ∈ qs))) H'
def spHEq (K : PySem.W.Frag) (C : Addr) : Sp := fun vs H Q _ => ∃ (a b d1 : Addr) (ps : List Pr), vs = [.ref a, .ref b] ∧ HoldAt H C a d1 ps ∧
  ((∃ d2 qs, HoldAt H C b d2 qs ∧ Q (.bl (ps.length == qs.length && ps.all fun p => decide (p ∈ qs))) H) ∨ ∃ ys, H b = some (.lst ys) ∧ Q (.bl false) H)
theorem hits_holds {K : PySem.W.Frag} {H : Hp} (qs : List Pr) : ∀ ps : List Pr, HitsT K H (pD qs) (pD ps) (ps.all fun p => decide (p ∈ qs))
  | [] => .nil
  | p :: ps => by
    have ih := hits_holds (K := K) (H := H) qs ps
    have e : pD (p :: ps) = (kP p, V.bl true) :: pD ps := rfl
    rw [e, List.all_cons]
    by_cases m : p ∈ qs
    · rw [decide_eq_true m]
      have v : valV (pD qs) (kP p) = some (V.bl true) := by rw [pD_val, if_pos m]
      exact .hit (d := .bool true) (d' := .bool true) v (.bl true) (.bl true) rfl rfl (Nat.zero_le _) ih
    · rw [decide_eq_false m, Bool.false_and]
      exact .miss (by rw [pD_val, if_neg m])
section
variable {P : Program} {w : World} {K : PySem.W.Frag} {mg : Str → Option Value} {base : Heap}
def nHLe : List Str := ["self", "other", "spot"]
theorem scHLe : FnScope nHLe ["self", "other"] (defScope sHoldLe) := ⟨rfl, rfl, rfl, by decide +kernel, rfl, by decide +kernel, by decide +kernel⟩
theorem small500 {n : Nat} (h : n ≤ 1000) : n < sizeLine := by rw [sizeLine_eq]; omega
theorem ok_hLe {f C : Addr} {fd : FuncData} (F : Fun K "__le__" "Hold.__le__" sHoldLe f fd) (c : HoldC P w K mg base C) (hI : mg "isinstance" = none) (hA : mg "all" = none) : FnOk P w K mg base CX0 2 f fd ["self", "other"] (spHLe K C) := by
  refine F.ok scHLe (fun vs H Q E h => ?_) (fun cdv A outer s H vs Q E hr h => ?_)
  · obtain ⟨a, b, d1, d2, ps, qs, rfl, _⟩ := h
    rfl
  · obtain ⟨a, b, d1, d2, ps, qs, rfl, h1, h2, hl, k⟩ := h
    obtain ⟨fi, fl, fdi, fdl, sc, GI, bI, GL, bL⟩ := c.st
    obtain ⟨fk, fdk, ck, GK, bK⟩ := c.inn
    refine ⟨_, pss_cons (ps_if (pt_not (pt_val (pe_callB call_isi (by rfl) hI (by decide +kernel) (pa_cons (pv 1) (pa_cons (pe_glob (v := .ref C) (by rfl) c.g rfl) pa_nil))))) pss_never pss_nil)
      (pss_one (ps_ret (pe_callB (cr_all rfl) (by rfl) hA (by decide +kernel) (pa_cons (pe_lock (pe_lc (own := [("spot", 2)]) (g := gName 2) (tt := tYes) rfl scHLe.nd (pi_own (pv 0) sc.it.at_ sc.it.fn GI hr bI) (blkOk_by (N := nHLe) (sc := defScope sHoldLe) (by decide +kernel))
        (fun _ _ _ _ _ => pg_name (i := 2) scHLe.nd rfl (Or.inl rfl)) (fun _ _ _ _ _ => pts_nil) (fun _ _ _ _ _ => pe_cmpR (op_inO (E := fun _ _ _ => False) ck GK hr bK pass0) (pv 2) (pv 1) rfl))) pa_nil)))), ?_⟩
    refine ⟨_, rfl, _, _, _, _, true, rfl, .own C, h2.ty c, c.kH, true, rfl, no rfl ?_⟩
    obtain ⟨dx, ea⟩ := h1.ins
    refine ⟨d1, _, h1.dict, True.intro, fun od => ?_⟩
    have nad : a ≠ d1 := ne_of ea h1.dict (by intro z; cases z)
    refine ⟨_, rfl, a, dx, _, rfl, by rw [upd_ne nad]; exact ea, fun n => ⟨a, C, dx, d1, od, ps, rfl, by rw [upd_ne nad]; exact ea, c.h, upd_same, fun it hit hn => ⟨it, d1, od, _, rfl, hn, upd_same, .inr ⟨_, by rw [upd_ne (ne_of_none upd_same hit)]; exact upd_same, rfl, ?_⟩⟩⟩⟩
    rw [ItX.dropH_upd hit]
    intro Dl hDl
    have nDd : d1 ≠ Dl := fun q => by rw [← q, upd_same] at hDl; cases hDl
    have hD0 : H Dl = none := by rw [upd_ne nDd.symm] at hDl; exact hDl
    refine lc_spots (fun j H' => (∀ q o, H q = some o → q ≠ d1 → H' q = some o) ∧ H' d1 = some (.frz od (.dT (pD ps))) ∧ H' Dl = some (.lst ((ps.take j).map fun p => V.bl (decide (p ∈ qs)))))
      ⟨fun q o e1 e2 => by rw [upd_ne (ne_of_none e1 hD0), upd_ne e2]; exact e1, by rw [upd_ne nDd, upd_same], upd_same⟩ (fun j H' _ h => h.2.1) ?_ ?_
    · rintro j p q H' hp hq ⟨s1, s2, s3⟩
      obtain ⟨⟨dy, eb⟩, rd⟩ := h2.rd h1.dict s1 s2
      refine ⟨rfl, _, rfl, _, rfl, b, dy, _, rfl, eb, b, C, dy, d2, q, qs, p, rfl, eb, c.h, rd, hq, _, rfl, ?_⟩
      have hj : j < ps.length := (List.getElem?_eq_some_iff.mp hp).1
      refine ⟨_, s3, small500 (by rw [List.length_map, List.length_take]; omega), fun x o e1 e2 => ?_, by rw [upd_ne nDd]; exact s2, ?_⟩
      · rw [upd_ne (ne_of_none e1 hD0)]
        exact s1 x o e1 e2
      · rw [upd_same, takeP hp, List.map_append]
        have z : ∀ b : Bool, (b == true) = b := fun b => by cases b <;> rfl
        rw [z]
        rfl
    · rintro H' ⟨s1, s2, s3⟩
      rw [List.take_length] at s3
      refine ⟨s2, Dl, ps.map fun p => decide (p ∈ qs), rfl, SqL.of (by rw [upd_ne nDd.symm, s3, List.map_map]; rfl), ?_⟩
      have e : ((ps.map fun p => decide (p ∈ qs)).all id) = ps.all fun p => decide (p ∈ qs) := by rw [List.all_map]; rfl
      rw [e]
      exact k _ (same_unlock h1.dict s1)
theorem scHEq : FnScope ["self", "other"] ["self", "other"] (defScope sHoldEq) := ⟨rfl, rfl, rfl, by decide +kernel, rfl, by decide +kernel, by decide +kernel⟩
theorem units70 {n : Nat} {A : Around} (h : Room n A) : A.units + 70 < cLine := by
  have := h.un
  omega
theorem ok_hEq {f C : Addr} {fd : FuncData} (F : Fun K "__eq__" "Hold.__eq__" sHoldEq f fd) (c : HoldC P w K mg base C) (hI : mg "isinstance" = none) : FnOk P w K mg base CX0 1 f fd ["self", "other"] (spHEq K C) := by
  refine F.ok scHEq (fun vs H Q E h => ?_) (fun cdv A outer s H vs Q E hr h => ?_)
  · obtain ⟨a, b, d1, ps, rfl, _⟩ := h
    rfl
  · obtain ⟨a, b, d1, ps, rfl, h1, hq⟩ := h
    refine ⟨_, pss_one (ps_ret (pe_and (pe_callB call_isi (by rfl) hI (by decide +kernel) (pa_cons (pv 1) (pa_cons (pe_glob (v := .ref C) (by rfl) c.g rfl) pa_nil)))
      (pe_one (pe_cmpR (op_eqT (units70 hr)) (pe_fld (pv 0) rfl) (pe_fld (pv 1) rfl) (nomark _))))), ?_⟩
    obtain ⟨dx, ea⟩ := h1.ins
    rcases hq with ⟨d2, qs, h2, k⟩ | ⟨ys, hb, k⟩
    · obtain ⟨dy, eb⟩ := h2.ins
      refine ⟨_, rfl, _, _, _, _, true, rfl, .own C, h2.ty c, c.kH, _, rfl, yes rfl ?_⟩
      refine ⟨_, rfl, a, C, dx, _, _, rfl, ea, c.h.cls, c.h.nS, rfl, _, rfl, b, C, dy, _, _, rfl, eb, c.h.cls, c.h.nS, rfl, ?_⟩
      refine ⟨d1, d2, _, _, _, rfl, rfl, .inl h1.dict, .inl h2.dict, fun _ => hits_holds qs ps, ?_⟩
      rw [pD_len, pD_len]
      exact k
    · exact ⟨_, rfl, _, _, _, _, false, rfl, .own C, .base (.lst hb), c.kL, _, rfl, no rfl k⟩
def nHAnd : List Str := ["self", "other", "spot"]
theorem scHAnd : FnScope nHAnd ["self", "other"] (defScope sHoldAnd) := ⟨rfl, rfl, rfl, by decide +kernel, rfl, by decide +kernel, by decide +kernel⟩
theorem scHSub : FnScope nHAnd ["self", "other"] (defScope sHoldSub) := ⟨rfl, rfl, rfl, by decide +kernel, rfl, by decide +kernel, by decide +kernel⟩
theorem scHOr : FnScope ["self", "other"] ["self", "other"] (defScope sHoldOr) := ⟨rfl, rfl, rfl, by decide +kernel, rfl, by decide +kernel, by decide +kernel⟩
/-- a hold just made of the rows at l -/
theorem hold_new {C : Addr} (c : HCls K C) {H : Hp} {l x dx : Addr} {vs : List V} {rows : List Pr} {Q : Hp → Prop} {E : XK} (hv : vs = [.ref x, .ref l]) (hl : RowsP K H l rows) (hz : rows.length ≤ 1000) (nx : H x = none) (ndx : H dx = none) (nex : dx ≠ x)
    (k : ∀ d' H', Same H H' → H d' = none → HoldAt H' C x d' (onceP rows) → Q H') :
    spHInit K vs (upd (upd H dx (.own x)) x (.ins C dx [])) (fun v H2 => v = .non ∧ Q H2) E := by
  have s0 : Same H (upd (upd H dx (.own x)) x (.ins C dx [])) := fun b o e => by rw [upd_ne (ne_of_none e nx), upd_ne (ne_of_none e ndx)]; exact e
  obtain ⟨xs, hp, hl⟩ := hl
  refine ⟨x, C, dx, l, rows, hv, upd_same, c, ⟨xs, hp.same s0, hl.imp (fun h => s0.seq h) fun h => same_seqT s0 h⟩, hz, fun d H' hd g e1 e2 => ⟨rfl, k d H' (fun b o e => ?_) (s0.free hd) ⟨⟨dx, e1⟩, e2, onceP_nd _⟩⟩⟩
  exact g b o (s0 b o e) (ne_of_none e nx)
theorem ok_hAnd {f C : Addr} {fd : FuncData} (F : Fun K "__and__" "Hold.__and__" sHoldAnd f fd) (c : HoldC P w K mg base C) (hI : mg "isinstance" = none) : FnOk P w K mg base CX0 3 f fd ["self", "other"] (spHNew K C fun ps qs => ps.filter fun p => decide (p ∈ qs)) := by
  refine F.ok scHAnd (fun vs H Q E h => ?_) (fun cdv A outer s H vs Q E hr h => ?_)
  · obtain ⟨a, b, d1, d2, ps, qs, rfl, _⟩ := h
    rfl
  · obtain ⟨a, b, d1, d2, ps, qs, rfl, h1, h2, hl, hl2, k⟩ := h
    obtain ⟨fi, fl, fdi, fdl, sc, GI, bI, GL, bL⟩ := c.st
    obtain ⟨fk, fdk, ck, GK, bK⟩ := c.inn
    obtain ⟨fn, fdn, e, ee, M, GN, bN, _⟩ := c.ini
    refine ⟨_, pss_cons (ps_if (pt_not (pt_val (pe_callB call_isi (by rfl) hI (by decide +kernel) (pa_cons (pv 1) (pa_cons (pe_glob (v := .ref C) (by rfl) c.g rfl) pa_nil))))) pss_never pss_nil)
      (pss_one (ps_ret (pe_make (E := fun _ _ _ => False) M GN hr (by rfl) c.g bN .nil pass0 (pa_cons (pe_lock (pe_lc (own := [("spot", 2)]) (g := gName 2) rfl scHAnd.nd (pi_own (pv 0) sc.it.at_ sc.it.fn GI (hr.mono (by decide)) bI) (blkOk_by (N := nHAnd) (sc := defScope sHoldAnd) (by decide +kernel))
        (fun _ _ _ _ _ => pg_name (i := 2) scHAnd.nd rfl (Or.inl rfl)) (fun _ _ _ _ _ => pts_one (pt_cmpR (op_inO (E := fun _ _ _ => False) ck GK (hr.mono (by decide)) bK pass0) (pv 2) (pv 1) rfl)) (fun _ _ _ _ _ => pv 2))) pa_nil)))), ?_⟩
    refine ⟨_, rfl, _, _, _, _, true, rfl, .own C, h2.ty c, c.kH, true, rfl, no rfl ?_⟩
    obtain ⟨dx, ea⟩ := h1.ins
    refine ⟨d1, _, h1.dict, True.intro, fun od => ?_⟩
    have nad : a ≠ d1 := ne_of ea h1.dict (by intro z; cases z)
    refine ⟨_, rfl, a, dx, _, rfl, by rw [upd_ne nad]; exact ea, fun n => ⟨a, C, dx, d1, od, ps, rfl, by rw [upd_ne nad]; exact ea, c.h, upd_same, fun it hit hn => ⟨it, d1, od, _, rfl, hn, upd_same, .inr ⟨_, by rw [upd_ne (ne_of_none upd_same hit)]; exact upd_same, rfl, ?_⟩⟩⟩⟩
    rw [ItX.dropH_upd hit]
    intro Dl hDl
    have nDd : d1 ≠ Dl := fun q => by rw [← q, upd_same] at hDl; cases hDl
    have hD0 : H Dl = none := by rw [upd_ne nDd.symm] at hDl; exact hDl
    refine lc_spots (fun j H' => (∀ q o, H q = some o → q ≠ d1 → H' q = some o) ∧ H' d1 = some (.frz od (.dT (pD ps))) ∧ ∃ xs, H' Dl = some (.lst xs) ∧ PairsAt H' xs ((ps.take j).filter fun p => decide (p ∈ qs)))
      ⟨fun q o e1 e2 => by rw [upd_ne (ne_of_none e1 hD0), upd_ne e2]; exact e1, by rw [upd_ne nDd, upd_same], [], upd_same, True.intro⟩ (fun j H' _ h => h.2.1) ?_ ?_
    · rintro j p q H' hp hq ⟨s1, s2, xs, s3, s4⟩
      obtain ⟨⟨dy, eb⟩, rd⟩ := h2.rd h1.dict s1 s2
      refine ⟨rfl, _, rfl, _, rfl, b, dy, _, rfl, eb, b, C, dy, d2, q, qs, p, rfl, eb, c.h, rd, hq, _, rfl, ?_⟩
      have hj : j < ps.length := (List.getElem?_eq_some_iff.mp hp).1
      have z : ∀ b : Bool, (b == true) = b := fun b => by cases b <;> rfl
      by_cases m : p ∈ qs
      · refine ⟨_, rfl, yes (by simpa using m) ⟨_, rfl, xs, s3, small500 ?_, fun x o e1 e2 => ?_, by rw [upd_ne nDd]; exact s2, _, upd_same, ?_⟩⟩
        · rw [s4.len]
          refine Nat.le_trans (List.length_filter_le ..) ?_
          rw [List.length_take]
          omega
        · rw [upd_ne (ne_of_none e1 hD0)]
          exact s1 x o e1 e2
        · have nq : ∀ t ys, H' t = some (.tup ys) → upd H' Dl (.lst (xs ++ [.ref q])) t = some (.tup ys) := fun t ys et => by rw [upd_ne (ne_of et s3 (fun z => nomatch z))]; exact et
          rw [takeP hp, List.filter_append]
          have e1 : ([p].filter fun p => decide (p ∈ qs)) = [p] := by simp [m]
          rw [e1]
          exact PairsAt.snoc (nq _ _ hq) (s4.keep nq)
      · refine ⟨_, rfl, no (by simpa using m) ⟨s1, s2, xs, s3, ?_⟩⟩
        rw [takeP hp, List.filter_append]
        have e1 : ([p].filter fun p => decide (p ∈ qs)) = [] := by simp [m]
        rw [e1, List.append_nil]
        exact s4
    · rintro H' ⟨s1, s2, xs, s3, s4⟩
      rw [List.take_length] at s4
      have s5 := same_unlock h1.dict s1
      have rows : RowsP K (upd H' d1 (.dT (pD ps))) Dl (ps.filter fun p => decide (p ∈ qs)) := ⟨xs, s4.keep fun t ys et => by rw [upd_ne (ne_of et s2 (fun z => nomatch z))]; exact et, .inl (SqL.of (by rw [upd_ne nDd.symm]; exact s3))⟩
      have lf : (ps.filter fun p => decide (p ∈ qs)).length ≤ ps.length := List.length_filter_le ..
      refine ⟨s2, fun x dx nx ndx nex => hold_new c.h rfl rows (by omega) nx ndx nex fun d' H2 s6 hd' h' => k x d' H2 (s5.trans s6) (s5.free nx) (s5.free hd') ?_⟩
      rw [onceP_id (h1.nd.filter _)] at h'
      exact h'
theorem ok_hSub {f C : Addr} {fd : FuncData} (F : Fun K "__sub__" "Hold.__sub__" sHoldSub f fd) (c : HoldC P w K mg base C) (hI : mg "isinstance" = none) : FnOk P w K mg base CX0 3 f fd ["self", "other"] (spHNew K C fun ps qs => ps.filter fun p => !decide (p ∈ qs)) := by
  refine F.ok scHSub (fun vs H Q E h => ?_) (fun cdv A outer s H vs Q E hr h => ?_)
  · obtain ⟨a, b, d1, d2, ps, qs, rfl, _⟩ := h
    rfl
  · obtain ⟨a, b, d1, d2, ps, qs, rfl, h1, h2, hl, hl2, k⟩ := h
    obtain ⟨fi, fl, fdi, fdl, sc, GI, bI, GL, bL⟩ := c.st
    obtain ⟨fk, fdk, ck, GK, bK⟩ := c.inn
    obtain ⟨fn, fdn, e, ee, M, GN, bN, _⟩ := c.ini
    refine ⟨_, pss_cons (ps_if (pt_not (pt_val (pe_callB call_isi (by rfl) hI (by decide +kernel) (pa_cons (pv 1) (pa_cons (pe_glob (v := .ref C) (by rfl) c.g rfl) pa_nil))))) pss_never pss_nil)
      (pss_one (ps_ret (pe_make (E := fun _ _ _ => False) M GN hr (by rfl) c.g bN .nil pass0 (pa_cons (pe_lock (pe_lc (own := [("spot", 2)]) (g := gName 2) rfl scHSub.nd (pi_own (pv 0) sc.it.at_ sc.it.fn GI (hr.mono (by decide)) bI) (blkOk_by (N := nHAnd) (sc := defScope sHoldSub) (by decide +kernel))
        (fun _ _ _ _ _ => pg_name (i := 2) scHSub.nd rfl (Or.inl rfl)) (fun _ _ _ _ _ => pts_one (pt_cmpR (op_notInO (E := fun _ _ _ => False) ck GK (hr.mono (by decide)) bK pass0) (pv 2) (pv 1) rfl)) (fun _ _ _ _ _ => pv 2))) pa_nil)))), ?_⟩
    refine ⟨_, rfl, _, _, _, _, true, rfl, .own C, h2.ty c, c.kH, true, rfl, no rfl ?_⟩
    obtain ⟨dx, ea⟩ := h1.ins
    refine ⟨d1, _, h1.dict, True.intro, fun od => ?_⟩
    have nad : a ≠ d1 := ne_of ea h1.dict (by intro z; cases z)
    refine ⟨_, rfl, a, dx, _, rfl, by rw [upd_ne nad]; exact ea, fun n => ⟨a, C, dx, d1, od, ps, rfl, by rw [upd_ne nad]; exact ea, c.h, upd_same, fun it hit hn => ⟨it, d1, od, _, rfl, hn, upd_same, .inr ⟨_, by rw [upd_ne (ne_of_none upd_same hit)]; exact upd_same, rfl, ?_⟩⟩⟩⟩
    rw [ItX.dropH_upd hit]
    intro Dl hDl
    have nDd : d1 ≠ Dl := fun q => by rw [← q, upd_same] at hDl; cases hDl
    have hD0 : H Dl = none := by rw [upd_ne nDd.symm] at hDl; exact hDl
    refine lc_spots (fun j H' => (∀ q o, H q = some o → q ≠ d1 → H' q = some o) ∧ H' d1 = some (.frz od (.dT (pD ps))) ∧ ∃ xs, H' Dl = some (.lst xs) ∧ PairsAt H' xs ((ps.take j).filter fun p => !decide (p ∈ qs)))
      ⟨fun q o e1 e2 => by rw [upd_ne (ne_of_none e1 hD0), upd_ne e2]; exact e1, by rw [upd_ne nDd, upd_same], [], upd_same, True.intro⟩ (fun j H' _ h => h.2.1) ?_ ?_
    · rintro j p q H' hp hq ⟨s1, s2, xs, s3, s4⟩
      obtain ⟨⟨dy, eb⟩, rd⟩ := h2.rd h1.dict s1 s2
      refine ⟨rfl, _, rfl, _, rfl, b, dy, _, rfl, eb, b, C, dy, d2, q, qs, p, rfl, eb, c.h, rd, hq, _, rfl, ?_⟩
      have hj : j < ps.length := (List.getElem?_eq_some_iff.mp hp).1
      by_cases m : ¬ p ∈ qs
      · refine ⟨_, rfl, yes (by simpa using m) ⟨_, rfl, xs, s3, small500 ?_, fun x o e1 e2 => ?_, by rw [upd_ne nDd]; exact s2, _, upd_same, ?_⟩⟩
        · rw [s4.len]
          refine Nat.le_trans (List.length_filter_le ..) ?_
          rw [List.length_take]
          omega
        · rw [upd_ne (ne_of_none e1 hD0)]
          exact s1 x o e1 e2
        · have nq : ∀ t ys, H' t = some (.tup ys) → upd H' Dl (.lst (xs ++ [.ref q])) t = some (.tup ys) := fun t ys et => by rw [upd_ne (ne_of et s3 (fun z => nomatch z))]; exact et
          rw [takeP hp, List.filter_append]
          have e1 : ([p].filter fun p => !decide (p ∈ qs)) = [p] := by simp [m]
          rw [e1]
          exact PairsAt.snoc (nq _ _ hq) (s4.keep nq)
      · refine ⟨_, rfl, no (by simpa using m) ⟨s1, s2, xs, s3, ?_⟩⟩
        rw [takeP hp, List.filter_append]
        have e1 : ([p].filter fun p => !decide (p ∈ qs)) = [] := by simp [m]
        rw [e1, List.append_nil]
        exact s4
    · rintro H' ⟨s1, s2, xs, s3, s4⟩
      rw [List.take_length] at s4
      have s5 := same_unlock h1.dict s1
      have rows : RowsP K (upd H' d1 (.dT (pD ps))) Dl (ps.filter fun p => !decide (p ∈ qs)) := ⟨xs, s4.keep fun t ys et => by rw [upd_ne (ne_of et s2 (fun z => nomatch z))]; exact et, .inl (SqL.of (by rw [upd_ne nDd.symm]; exact s3))⟩
      have lf : (ps.filter fun p => !decide (p ∈ qs)).length ≤ ps.length := List.length_filter_le ..
      refine ⟨s2, fun x dx nx ndx nex => hold_new c.h rfl rows (by omega) nx ndx nex fun d' H2 s6 hd' h' => k x d' H2 (s5.trans s6) (s5.free nx) (s5.free hd') ?_⟩
      rw [onceP_id (h1.nd.filter _)] at h'
      exact h'
theorem keys_refs {H : Hp} : ∀ {ps : List Pr} {bs : List Addr}, IsKeys H (pD ps) bs → PairsAt H (bs.map V.ref) ps
  | [], [], _ => True.intro
  | p :: ps, b :: bs, h => by
    cases h with
    | cons h t => exact ⟨⟨b, rfl, h⟩, keys_refs t⟩
  | [], _ :: _, h => by cases h
  | _ :: _, [], h => by cases h
theorem PairsAt.app {H : Hp} : ∀ {xs ys : List V} {ps qs : List Pr}, PairsAt H xs ps → PairsAt H ys qs → PairsAt H (xs ++ ys) (ps ++ qs)
  | [], _, [], _, _, h => h
  | v :: xs, ys, p :: ps, qs, ⟨h, r⟩, h' => ⟨h, PairsAt.app r h'⟩
  | [], _, _ :: _, _, h, _ => h.elim
  | _ :: _, _, [], _, h, _ => h.elim
theorem ok_hOr {f C : Addr} {fd : FuncData} (F : Fun K "__or__" "Hold.__or__" sHoldOr f fd) (c : HoldC P w K mg base C) (hI : mg "isinstance" = none) : FnOk P w K mg base CX0 4 f fd ["self", "other"] (spHOr K C) := by
  refine F.ok scHOr (fun vs H Q E h => ?_) (fun cdv A outer s H vs Q E hr h => ?_)
  · obtain ⟨a, b, d1, d2, ps, qs, rfl, _⟩ := h
    rfl
  · obtain ⟨a, b, d1, d2, ps, qs, rfl, h1, h2, hd, hl, hl2, k⟩ := h
    obtain ⟨fi, fl, fdi, fdl, sc, GI, bI, GL, bL⟩ := c.st
    obtain ⟨fn, fdn, e, ee, M, GN, bN, _⟩ := c.ini
    refine ⟨_, pss_cons (ps_if (pt_not (pt_val (pe_callB call_isi (by rfl) hI (by decide +kernel) (pa_cons (pv 1) (pa_cons (pe_glob (v := .ref C) (by rfl) c.g rfl) pa_nil))))) pss_never pss_nil)
        (pss_one (ps_ret (pe_make (E := fun _ _ _ => False) M GN (hr.mono (by decide)) (by rfl) c.g bN .nil pass0 (pa_cons (pe_lock (pe_lock (pe_lst (pa_starO sc GI bI GL bL hr rfl (pv 0) (pa_starO sc GI bI GL bL hr rfl (pv 1) pa_nil))))) pa_nil)))), ?_⟩
    refine ⟨_, rfl, _, _, _, _, true, rfl, .own C, h2.ty c, c.kH, true, rfl, no rfl ?_⟩
    obtain ⟨dx, ea⟩ := h1.ins
    obtain ⟨dy, eb⟩ := h2.ins
    refine ⟨d1, _, h1.dict, True.intro, fun od => ⟨d2, .dT (pD qs), by rw [upd_ne (Ne.symm hd)]; exact h2.dict, True.intro, fun od2 => ?_⟩⟩
    have n1 : a ≠ d1 := ne_of ea h1.dict (fun z => nomatch z)
    have n2 : a ≠ d2 := ne_of ea h2.dict (fun z => nomatch z)
    have n3 : b ≠ d1 := ne_of eb h1.dict (fun z => nomatch z)
    have n4 : b ≠ d2 := ne_of eb h2.dict (fun z => nomatch z)
    have tup : ∀ t ys, upd (upd H d1 (.frz od (.dT (pD ps)))) d2 (.frz od2 (.dT (pD qs))) t = some (.tup ys) → H t = some (.tup ys) := fun t ys e => by
      by_cases m2 : t = d2
      · rw [m2, upd_same] at e; cases e
      · rw [upd_ne m2] at e
        by_cases m1 : t = d1
        · rw [m1, upd_same] at e; cases e
        · rw [upd_ne m1] at e; exact e
    have f1 : upd (upd H d1 (.frz od (.dT (pD ps)))) d2 (.frz od2 (.dT (pD qs))) d1 = some (.frz od (.dT (pD ps))) := by rw [upd_ne hd, upd_same]
    have f2 : upd (upd H d1 (.frz od (.dT (pD ps)))) d2 (.frz od2 (.dT (pD qs))) d2 = some (.frz od2 (.dT (pD qs))) := upd_same
    have fa : upd (upd H d1 (.frz od (.dT (pD ps)))) d2 (.frz od2 (.dT (pD qs))) a = some (.ins C dx [("_spots", .ref d1)]) := by rw [upd_ne n2, upd_ne n1]; exact ea
    have fb : upd (upd H d1 (.frz od (.dT (pD ps)))) d2 (.frz od2 (.dT (pD qs))) b = some (.ins C dy [("_spots", .ref d2)]) := by rw [upd_ne n4, upd_ne n3]; exact eb
    have hk : ∀ q o, H q = some o → q ≠ d1 → q ≠ d2 → upd (upd H d1 (.frz od (.dT (pD ps)))) d2 (.frz od2 (.dT (pD qs))) q = some o := fun q o e m1 m2 => by rw [upd_ne m2, upd_ne m1]; exact e
    have big : ∀ n : Nat, n ≤ 500 → n ≤ sizeLine := fun n h => Nat.le_of_lt (small500 (by omega))
    generalize upd (upd H d1 (.frz od (.dT (pD ps)))) d2 (.frz od2 (.dT (pD qs))) = G at *
    refine ⟨_, rfl, a, dx, _, d1, od, _, rfl, fa, f1, fun n => ⟨a, C, dx, d1, od, ps, rfl, fa, c.h, f1, fun it hit hn => ⟨it, rfl, hn, hit, rfl⟩⟩, fun H2 ha2 hd2 => ⟨a, C, dx, d1, ps, rfl, ha2, c.h, .inr ⟨od, hd2⟩, rfl, _, rfl, big _ hl⟩, fun bs ik => ?_⟩
    refine ⟨_, rfl, b, dy, _, d2, od2, _, rfl, fb, f2, fun n => ⟨b, C, dy, d2, od2, qs, rfl, fb, c.h, f2, fun it hit hn => ⟨it, rfl, hn, hit, rfl⟩⟩, fun H2 ha2 hd2 => ⟨b, C, dy, d2, qs, rfl, ha2, c.h, .inr ⟨od2, hd2⟩, rfl, _, rfl, big _ hl2⟩, fun bs2 ik2 => ?_⟩
    have p1 : PairsAt H (bs.map V.ref) ps := (keys_refs ik).keep tup
    have p2 : PairsAt H (bs2.map V.ref) qs := (keys_refs ik2).keep tup
    have p3 : PairsAt H (bs.map V.ref ++ (bs2.map V.ref ++ [])) (ps ++ qs) := by rw [List.append_nil]; exact p1.app p2
    have l3 := p3.len
    refine ⟨Nat.le_of_lt (small500 (by rw [l3, List.length_append]; omega)), fun L hL => ?_⟩
    have nL1 : L ≠ d1 := fun z => by rw [z, f1] at hL; cases hL
    have nL2 : L ≠ d2 := fun z => by rw [z, f2] at hL; cases hL
    refine ⟨by rw [upd_ne (Ne.symm nL2)]; exact f2, by rw [upd_ne hd, upd_ne (Ne.symm nL1)]; exact f1, ?_⟩
    have s5 : Same H (upd (upd (upd G L (.lst (bs.map V.ref ++ (bs2.map V.ref ++ [])))) d2 (.dT (pD qs))) d1 (.dT (pD ps))) := fun q o e => by
      by_cases m1 : q = d1
      · rw [m1, upd_same, ← h1.dict, ← m1, e]
      · rw [upd_ne m1]
        by_cases m2 : q = d2
        · rw [m2, upd_same, ← h2.dict, ← m2, e]
        · have g := hk q o e m1 m2
          rw [upd_ne m2, upd_ne (ne_of_none g hL)]
          exact g
    have rows : RowsP K (upd (upd (upd G L (.lst (bs.map V.ref ++ (bs2.map V.ref ++ [])))) d2 (.dT (pD qs))) d1 (.dT (pD ps))) L (ps ++ qs) := ⟨_, p3.same s5, .inl (SqL.of (by rw [upd_ne nL1, upd_ne nL2, upd_same]))⟩
    exact fun x dx nx ndx nex => hold_new c.h rfl rows (by rw [List.length_append]; omega) nx ndx nex fun d' H2 s6 hd' h' => k x d' H2 (s5.trans s6) (s5.free nx) (s5.free hd') h'
end
end Yd
namespace Yd
open PySem L2
/-! ### several clauses, each «except X as n» -/
/-- behind the suite n has no value any more -/
def offAt (i : Nat) (D : Ends) : Ends := { nx := fun σ' H' => D.nx (σ'.set i none) H', rt := D.rt, bk := fun σ' H' => D.bk (σ'.set i none) H', ct := fun σ' H' => D.ct (σ'.set i none) H' }
def wAses (K : PySem.W.Frag) (i : Nat) (Wout : WX) (D : Ends) : List (Value × (Addr → Value → Option Addr → TS)) → WX
  | [] => Wout
  | (c, ts) :: r => fun cls d σ H => ∃ b, PySem.W.exmOne K cls c = some b ∧ (b = true → ∀ a, H a = none → ts a cls d (offAt i D) (σ.set i (some (.ref a))) H) ∧ (b = false → wAses K i Wout D r cls d σ H)
inductive HdsAs (X : Cx) (n : Str) : List ExceptHandler → List (Value × (Addr → Value → Option Addr → TS)) → Prop
  | nil : HdsAs X n [] []
  | cons {x : Str} {c : Value} {ts : Addr → Value → Option Addr → TS} {b₀ : Stmt} {suite : List Stmt} {np ps : Pos} {hds : List ExceptHandler} {l : List (Value × (Addr → Value → Option Addr → TS))} (hc : Names X x c)
      (hsu : ∀ (a : Addr) (oe : Obj) (cls : Value) (d : Option Addr) (pn : List (Addr × Obj)), Zc cls d oe → (∃ vs, oe.data = .fields vs) → PSs (X.suite a ((a, oe) :: pn)) (b₀ :: suite) (ts a cls d)) (r : HdsAs X n hds l) :
      HdsAs X n (.ExceptHandler (some (.Name x np)) (some n) (b₀ :: suite) ps :: hds) ((c, ts) :: l)
section
variable {X : Cx} {n : Str} {i : Nat} {body : List Stmt} {k₀ : ExceptHandler} {ks : List ExceptHandler} {l : List (Value × (Addr → Value → Option Addr → TS))} {pos : Pos} {tb : WX → TS} {Wout : WX}
theorem ps_try_ases (hst : X.stack = X.env :: X.outer) (hfr0 : X.env.frame = some X.env.locals) (hN : X.N.Nodup) (hi : X.N[i]? = some n) (hln : X.env.kindOf n = some .local) (out : Takes X Wout)
    (hb : ∀ (W : WX) (pn : List (Addr × Obj)) (xe : Value → Shared → Prop), Takes (X.tr pn xe) W → PassesOwn (model X.prog X.w) X.A X.env xe → PSs (X.tr pn xe) body (tb W))
    (hh : HdsAs X n (k₀ :: ks) l) : PS X (.Try body (k₀ :: ks) [] [] pos) (fun D σ H => tb (wAses X.K i Wout D l) D σ H) := by
  refine ⟨fun pins s σ H D I h => wpAny_Try_except ?_⟩
  have okX := I.ok
  have frames : X.A.frames = some (X.env :: X.outer) := by rw [okX.frames, hst]
  have nloc : Loc X.env.scope n := .inl hln
  let wish : Value → Shared → Prop := fun e s₁ => wpAny (model X.prog X.w) X.A (noteFrame e X.env) (fun _ s₂ => wpAny (model X.prog X.w) X.A (setFlight e none) (fun _ s₃ => wpAny (model X.prog X.w) X.A (handleBy e X.env (k₀ :: ks)) (SP X pins D) X.xe s₃) X.xe s₂) X.xe s₁
  refine wpAny_mono ((hb (wAses X.K i Wout D l) (X.pn ++ pins) wish (fun u s' xx => ?_) PassesOwn.looking).run [] s σ H D (I.toTry _) h) (fun f s1 ended => ?_) fun e s1 he => he
  · obtain ⟨a, B, sI, pins', σ1, H1, cls, d, rfl, J0, nb, up, sky, na, os, ag, ww⟩ := xx
    have J : Inv X pins σ1 H1 sI := J0.ofTry okX
    have sky1 : Sky B (X.env :: X.outer) a (Zc cls d) X.env.locals s'.heap := hst ▸ sky
    refine Sky.land Zc.steady frames hfr0 sky1 fun h3 fl3 up3 => ?_
    have JL : Inv X pins σ1 H1 { s' with heap := h3 } := J.landed nb fl3.1 (up.trans up3) os ag
    obtain ⟨oe3, vs3, he3, hz3, hd3⟩ := fl3.there
    have outside : a ∉ frs (X.env :: X.outer) := fun hm => by
      obtain ⟨_, o', e', hnf⟩ := fl3.2.2.1.mem hm
      rw [he3] at e'
      cases e'
      exact hnf _ hd3
    have nL : a ≠ X.env.locals := fun z => outside (List.mem_filterMap.mpr ⟨X.env, List.mem_cons_self, by rw [hfr0, z]⟩)
    have nF : a ∉ X.fs := fun hm => by
      obtain ⟨e, he, q⟩ := List.mem_filterMap.mp hm
      exact outside (List.mem_filterMap.mpr ⟨e, List.mem_cons_of_mem _ he, q⟩)
    have SL := JL.suite he3 hd3 na nL nF
    have LT : PySem.W.Looks (model X.prog X.w) h3 (typeOf (.ref a)) cls := fun A Q E s k q => wpAny_typeOf_ref (k _ _ he3) (hz3.1 ▸ q)
    have each : ∀ {hs : List ExceptHandler} {ls : List (Value × (Addr → Value → Option Addr → TS))}, HdsAs X n hs ls → wAses X.K i Wout D ls cls d σ1 H1 →
        wpAny (model X.prog X.w) X.A (handleBy (.ref a) X.env hs) (SP X pins D) X.xe { s' with heap := h3 } := by
      intro hs ls hh
      induction hh with
      | nil =>
        intro w0
        refine wpAny_handleBy_nil ?_
        obtain ⟨_, _, _, oe, vs, T, oT, _, he, hz, hd, h1, _⟩ := id fl3
        unfold PySem.passOn
        refine wpAny_bind (wpAny_field he hd h1 ?_)
        have nt : ¬ ((Value.ref T == Value.none) = true) := by simp
        rw [if_neg nt]
        have fin : wpAny (model X.prog X.w) X.A (setFlight (.ref a) X.env.frame) (fun _ s4 => wpAny (model X.prog X.w) X.A (throw (.ref a) : Sem Flow) (SP X pins D) X.xe s4) X.xe { s' with heap := h3 } := by
          rw [hfr0]
          refine HandSPX.setFlight_upZ fl3 fun h4 hh4 up4 => wpAny_throw (out _ _ ?_)
          exact ⟨a, B, sI, pins, σ1, H1, cls, d, rfl, J, nb, (up.trans up3).trans up4, .inr (.inr (hst.symm ▸ hh4)), na, os, ag, w0⟩
        first
          | exact wpAny_bind (wpAny_pure (wpAny_bind fin))
          | exact wpAny_bind fin
      | @cons x c ts b₀ suite np ps hds2 l2 hc hsu r ih =>
        rintro ⟨b, hb1, hyes, hno⟩
        refine wpAny_handleBy_cons (codeAny_handlers_test ?_) (by intro q; cases q)
        have LM := PySem.W.exm_one (M := model X.prog X.w) JL.kIn LT hb1
        have named : ∀ {Q : Value → Shared → Prop} {E : Value → Shared → Prop}, Q c { s' with heap := h3 } → wpAny (model X.prog X.w) (X.A.mark (some (.ref a))) (eval (.Name x np) X.env) Q E { s' with heap := h3 } := fun {Q E} q => by
          obtain ⟨hg, hdbg, hm | ⟨hm, hv, hnn⟩⟩ := hc
          · exact ld_glob (X := X.suite a ((a, oe3) :: (X.pn ++ pins))) SL hg hm q hdbg
          · exact ld_blt (X := X.suite a ((a, oe3) :: (X.pn ++ pins))) SL hg hm hv q hnn hdbg
        refine named (LM.here ?_)
        cases b with
        | false =>
          show wpAny (model X.prog X.w) X.A (handleBy (.ref a) X.env hds2) (SP X pins D) X.xe _
          exact ih (hno rfl)
        | true =>
          refine codeAny_handlers_suite_as (HandSPX.lands_againZ fl3 fun h4 fl4 up4 => ?_)
          have J4 : Inv X pins σ1 H1 { s' with heap := h4 } := J.landed nb fl4.1 ((up.trans up3).trans up4) os ag
          obtain ⟨oe4, vs4, he4, hz4, hd4⟩ := fl4.there
          refine store_ok (X := X.suite a ((a, oe4) :: (X.pn ++ pins))) (v := .ref a) (J4.suite he4 hd4 na nL nF) hN hi nloc rfl (fun s5 S5 => ?_) (.inr hln)
          refine wpAny_mono ((hsu a oe4 cls d (X.pn ++ pins) hz4 ⟨_, hd4⟩).run [] s5 _ H1 _ S5 (hyes rfl a na)) (fun f s6 he6 => ?_) fun _ _ z => z.elim
          have gone : ∀ {σ6 : St} {H6 : Hp} {Q : Shared → Prop}, Inv (X.suite a ((a, oe4) :: (X.pn ++ pins))) [] σ6 H6 s6 → (∀ s7, Inv X pins (σ6.set i none) H6 s7 → Q s7) →
              wpAny (model X.prog X.w) X.A (do bindName X.env n .none; unbindBehindTheSuite X.env n ps) (fun _ s7 => Q s7) X.xe s6 := fun S6 hq => gone_ok (S6.unsuite okX) hN hi hln hq
          cases f with
          | next => exact let ⟨_, _, S6, q6⟩ := he6; gone S6 fun s7 J7 => ⟨_, _, J7, q6⟩
          | brk => exact let ⟨_, _, S6, q6⟩ := he6; gone S6 fun s7 J7 => ⟨_, _, J7, q6⟩
          | cont => exact let ⟨_, _, S6, q6⟩ := he6; gone S6 fun s7 J7 => ⟨_, _, J7, q6⟩
          | ret u => exact let ⟨_, _, _, S6, r6, q6⟩ := he6; gone S6 fun s7 J7 => ⟨_, _, _, J7, r6, q6⟩
    exact each hh ww
  · cases f with
    | next => exact let ⟨σ', H', J', q⟩ := ended; wpAny_execs_nil ⟨σ', H', J'.ofTry okX, q⟩
    | brk => exact let ⟨σ', H', J', q⟩ := ended; ⟨σ', H', J'.ofTry okX, q⟩
    | cont => exact let ⟨σ', H', J', q⟩ := ended; ⟨σ', H', J'.ofTry okX, q⟩
    | ret u => exact let ⟨v, σ', H', J', r, q⟩ := ended; ⟨v, σ', H', J'.ofTry okX, r, q⟩
end
end Yd
namespace Yd
open PySem L2
/-! ### o.m() where the class of o is known when it runs -/
section
variable {X : Cx} {m : Str} {pos apos : Pos} {o : Expr} {ta : TE} {pl : Sem Bool} {n : Nat}
def tDyn (P : Program) (w : World) (K : PySem.W.Frag) (mg : Str → Option Value) (base : Heap) (n : Nat) (m : Str) (ta : TE) : TE := fun σ H Q => ta σ H fun x H1 => ∃ (a C dx : Addr) (fs : List (Str × V)) (g : Addr) (gd : FuncData) (sp : Sp), x = .ref a ∧ H1 a = some (.ins C dx fs) ∧ fs.lookup m = none ∧
  Cls K C ∧ Meth K C m g ∧ FnOk P w K mg base CX0 n g gd ["self"] sp ∧ Binds K gd ["self"] [] ∧ sp [.ref a] H1 Q E0
theorem pe_dyn (he : PE X o ta) (hr : Room n X.A)
    (ht : eval (.Call (.Attribute o m apos) [] [] pos) X.env = (do
      let ov ← eval o X.env
      standAt apos.atName
      let (f, first) ← holding [ov] (getMethod ov m pl)
      callWith pos f first (backTo pos (starEach [] X.env)) (backToKw pos (keywordEach [] X.env))) := by rfl) :
    PE X (.Call (.Attribute o m apos) [] [] pos) (tDyn X.prog X.w X.K X.mg X.base n m ta) := by
  refine ⟨fun pins s σ H Q I h => PySem.W.methodCall_KW (pl := pl) (thn (he.run pins s σ H _ I h) fun u s1 ⟨x, H1, I1, rx, a, C, dx, fs, g, gd, sp, ex, ea, l, c, hm, F, hb, q⟩ => ?_) ht⟩
  subst ex
  obtain rfl : u = Value.ref a := rx
  exact getmeth_ok I1 ea c hm l (PySem.W.callWith_K0 (first := [.ref a]) I1.kIn hm.kp (run_fn (us := [.ref a]) (vs := [.ref a]) F hr hb .nil pass0 I1 (.cons rfl .nil) q))
end
/-! ### the same with arguments; items of an object whose class is known when it runs -/
section
open PySem.W
variable {X : Cx} {CX : CXT} {E : XK} {m : Str} {pos apos : Pos} {e o i : Expr} {es : List Expr} {ta to ti : TE} {t : TA} {pl : Sem Bool} {n : Nat}
def tDynA (P : Program) (w : World) (K : PySem.W.Frag) (mg : Str → Option Value) (base : Heap) (CX : CXT) (E : XK) (n : Nat) (m : Str) (ta : TE) (t : TA) : TE := fun σ H Q => ta σ H fun x H1 => ∃ (a C dx : Addr) (fs : List (Str × V)) (g : Addr) (gd : FuncData) (ps : List Str) (sp : Sp), x = .ref a ∧ H1 a = some (.ins C dx fs) ∧ fs.lookup m = none ∧
  Cls K C ∧ Meth K C m g ∧ FnOk P w K mg base CX n g gd ps sp ∧ Binds K gd ps [] ∧ t σ H1 fun vs H2 => sp (x :: vs) H2 Q E
theorem pe_dynA (he : PE X o ta) (hr : Room n X.A) (hx : Passes CX X E) (ha : L2.PA X (e :: es) t)
    (hst : starEach (e :: es) X.env = (false, eval e X.env) :: starEach es X.env := by rfl) (hpl : (backTo pos (starEach es X.env)).any (·.1) = false := by rfl)
    (ht : eval (.Call (.Attribute o m apos) (e :: es) [] pos) X.env = (do
      let ov ← eval o X.env
      standAt apos.atName
      let (f, first) ← holding [ov] (getMethod ov m pl)
      callWith pos f first (backTo pos (starEach (e :: es) X.env)) (backToKw pos (keywordEach [] X.env))) := by rfl) :
    PE X (.Call (.Attribute o m apos) (e :: es) [] pos) (tDynA X.prog X.w X.K X.mg X.base CX E n m ta t) := by
  refine ⟨fun pins s σ H Q I h => PySem.W.methodCall_KW (thn (he.run pins s σ H _ I h) fun u s1 ⟨x, H1, I1, rx, a, C, dx, fs, g, gd, ps, sp, ex, ea, l, c, hm, F, hb, q⟩ => ?_) ht⟩
  subst ex
  obtain rfl : u = Value.ref a := rx
  refine getmeth_ok I1 ea c hm l ?_
  exact PySem.W.callWith_K (first := [.ref a]) (h₀ := X.base) I.ok.mod.kin hm.kp (thn (ha.run pos pins s1 σ H1 _ I1 q) fun us s2 ⟨vs, H2, I2, r, q2⟩ => ⟨I2.kIn, run_fnS (E := fun _ => E) (us := .ref a :: us) (vs := .ref a :: vs) F hr hb (at_all hx σ) I2 (.cons rfl r) q2⟩) hst hpl
def tSubD (P : Program) (w : World) (K : PySem.W.Frag) (mg : Str → Option Value) (base : Heap) (CX : CXT) (E : XK) (n : Nat) (to ti : TE) : TE := fun σ H Q => to σ H fun x H1 => ti σ H1 fun y H2 => ∃ (a C dx : Addr) (fs : List (Str × V)) (g : Addr) (gd : FuncData) (ps : List Str) (sp : Sp), x = .ref a ∧ H2 a = some (.ins C dx fs) ∧
  ItemC K C "__getitem__" g ∧ FnOk P w K mg base CX n g gd ps sp ∧ Binds K gd ps [] ∧ sp [x, y] H2 Q E
theorem pe_subD (ho : PE X o to) (hi : PE X i ti) (hr : Room (n + 1) X.A) (hx : Passes CX X E)
    (hsl : ∀ x i', subscripted i true (.ref x) i' = runValue (.builtin "lifetime.subscript" ⟨[.ref x, i'], []⟩) := by intro _ _; with_unfolding_all rfl) : PE X (.Subscript o i pos) (tSubD X.prog X.w X.K X.mg X.base CX E n to ti) := by
  refine ⟨fun pins s σ H Q I h => PyProof.Rows.Subscript_ (binT (R := fun x y H2 => ∃ (a C dx : Addr) (fs : List (Str × V)) (g : Addr) (gd : FuncData) (ps : List Str) (sp : Sp), x = .ref a ∧ H2 a = some (.ins C dx fs) ∧
    ItemC X.K C "__getitem__" g ∧ FnOk X.prog X.w X.K X.mg X.base CX n g gd ps sp ∧ Binds X.K gd ps [] ∧ sp [x, y] H2 Q E) ho hi I h fun v u s2 x y H2 I2 rx ry hq => ?_)⟩
  obtain ⟨a, C, dx, fs, g, gd, ps, sp, rfl, ha, c, F, hb, q⟩ := hq
  obtain rfl : v = Value.ref a := rx
  obtain ⟨m, hF⟩ := I2.fr
  obtain ⟨mA, O, _⟩ := ins_get I2.hok ha
  obtain ⟨oa, J, _⟩ := O.look
  exact sub_K hF I2.ok.mod.kin J c.at_ c.fi c.fn (run_in1 (E := fun _ => E) F hr hb (at_all hx _) I2 (Paired.cons (a := V.ref a) rfl (.cons ry .nil)) q) (hsl a u)
def gSubD (P : Program) (w : World) (K : PySem.W.Frag) (mg : Str → Option Value) (base : Heap) (CX : CXT) (E : XK) (n : Nat) (to ti : TE) : TG := fun v σ H Q => to σ H fun x H1 => ti σ H1 fun y H2 => ∃ (a C dx : Addr) (fs : List (Str × V)) (g : Addr) (gd : FuncData) (ps : List Str) (sp : Sp), x = .ref a ∧ H2 a = some (.ins C dx fs) ∧
  ItemC K C "__setitem__" g ∧ FnOk P w K mg base CX n g gd ps sp ∧ Binds K gd ps [] ∧ sp [x, y, v] H2 (fun _ H3 => Q σ H3) E
theorem pg_subD (ho : PE X o to) (hi : PE X i ti) (hr : Room n X.A) (hx : Passes CX X E)
    (ha : ∀ v, assign (.Subscript o i pos) X.env v = (do
      let ov ← holding [v] (eval o X.env)
      let iv ← holding [v, ov] (eval i X.env)
      standAt pos
      holding [v, ov, iv] (setItem ov iv v)
      release [v, ov, iv] []) := by intro _; rfl) : PG X (.Subscript o i pos) (gSubD X.prog X.w X.K X.mg X.base CX E n to ti) := by
  refine ⟨fun pins s σ H v u Q I r h => ?_⟩
  rw [ha]
  refine wpAny_bind (wpAny_holding (thn (ho.run pins s σ H _ I h) fun ov s1 ⟨x, H1, I1, r1, q1⟩ => wpAny_bind (wpAny_holding (thn (hi.run pins s1 σ H1 _ I1 q1) fun iv s2 ⟨y, H2, I2, r2, a, C, dx, fs, g, gd, ps, sp, ex, e2, c, F, hb, q2⟩ => ?_))))
  subst ex
  obtain rfl : ov = Value.ref a := r1
  obtain ⟨m, hF⟩ := I2.fr
  obtain ⟨mA, O, _⟩ := ins_get I2.hok e2
  obtain ⟨oa, J, _⟩ := O.look
  refine wpAny_bind (wpAny_standAt (wpAny_bind (wpAny_holding (ksp_setItem hF I2.ok.mod.kin J c.noq c.at_ c.fn (thn (run_fnS (E := fun _ => E) F hr hb (at_all hx σ) I2 (Paired.cons (a := V.ref a) rfl (.cons r2 (.cons r .nil))) q2) fun _ s3 ⟨_, H3, I3, _, q3⟩ => wpAny_release ⟨σ, H3, I3, q3⟩)))))
end
end Yd
namespace Yd
open PySem L2
/-! ### list(zip(a, b)) of two tuples -/
section
open RZ PySem.W
theorem zip_no_len : typeLookup (.type "zip") "__len__" = pure none := am_miss_of_fast (by decide +kernel)
theorem zip_no_hint : typeLookup (.type "zip") "__length_hint__" = pure none := am_miss_of_fast (by decide +kernel)
section
variable {prog : Program} {w : World} {A : Around} {E : Value → Shared → Prop} {s : Shared}
theorem zipT_item_held {z TI TO T i1 i2 l1 l2 : Addr} {f : Bool} {oT : Obj} {k1 k2 : Nat} {xs ys : Array Value} {x y : Value} {Q : Value → Shared → Prop} (D : ZipApart z TI TO i1 i2 l1 l2)
    (hz : IsZipHeld s.heap z TI TO T f) (hT : s.heap.get? T = some oT) (hTI : IsPair s.heap TI (.ref i1) (.ref i2))
    (h1 : s.heap.IsTupleIter i1 l1 k1) (h2 : s.heap.IsTupleIter i2 l2 k2) (hl1 : s.heap.IsTuple l1 xs) (hl2 : s.heap.IsTuple l2 ys) (hx : xs[k1]? = some x) (hy : ys[k2]? = some y)
    (hQ : ∀ h', IsZipHeld h' z TI TO T true → h'.IsTupleIter i1 l1 (k1 + 1) → h'.IsTupleIter i2 l2 (k2 + 1) → IsPair h' s.heap.objs.size x y → h'.objs.size = s.heap.objs.size + 1 →
      (∀ c o, c ≠ z → c ≠ i1 → c ≠ i2 → s.heap.get? c = some o → h'.get? c = some o) → Q (.ref s.heap.objs.size) { s with heap := h' }) :
    wpAny (model prog w) A (Builtin.«zip.__next__» ⟨[.ref z], []⟩) (fun fin s' => ∃ v, fin = .done (.ret v) ∧ Q v s') E s := by
  show wpAny _ _ (field (.ref z) 2 >>= _) _ _ _
  refine wpAny_bind (wpAny_field hz rfl (x := .bool false) rfl ?_)
  show wpAny _ _ (field (.ref z) 3 >>= _) _ _ _
  refine wpAny_bind (wpAny_field hz rfl (x := .ref TI) rfl ?_)
  refine wpAny_bind (wpAny_seqItems hTI rfl ?_)
  show wpAny _ _ (Builtin.SmallTypes.ownedTupleIsFree (.ref z) >>= _) _ _ _
  refine wpAny_bind (wpAny_tupleHeld_zip hz hT fun h₁ hz₁ hs₁ => ?_)
  simp only [Bool.false_eq_true, if_false]
  refine wpAny_bind ?_
  rw [← Array.forIn_toList]
  simp only [List.forIn_cons, List.forIn_nil]
  refine wpAny_bind (wpAny_bind (wpAny_holding ?_))
  show wpAny _ _ (Builtin.SmallTypes.nextOf (.ref i1) >>= _) _ _ _
  refine wpAny_bind (nextOf_tuple_item (s := { s with heap := h₁ }) (h1.extBut hs₁.extBut D.i1z) (hl1.extBut hs₁.extBut D.l1z) hx fun h₂ h1₂ hs₂ => wpAny_pure ?_)
  refine wpAny_pure ?_
  refine wpAny_bind (wpAny_bind (wpAny_holding ?_))
  show wpAny _ _ (Builtin.SmallTypes.nextOf (.ref i2) >>= _) _ _ _
  refine wpAny_bind (nextOf_tuple_item (s := { s with heap := h₂ }) ((h2.extBut hs₁.extBut D.i2z).extBut hs₂.extBut D.i12.symm) ((hl2.extBut hs₁.extBut D.l2z).extBut hs₂.extBut D.l2i1) hy fun h₃ h2₃ hs₃ => wpAny_pure ?_)
  refine wpAny_pure (wpAny_pure ?_)
  show wpAny _ _ (newTuple [x, y] >>= _) _ _ _
  refine wpAny_bind (wpAny_newTuple ?_)
  have hsz : h₃.objs.size = s.heap.objs.size := by rw [hs₃.1, hs₂.1, hs₁.1]
  have hz₃ : IsZipHeld h₃ z TI TO T true := hs₃.extBut _ _ D.i2z.symm (hs₂.extBut _ _ D.i1z.symm hz₁)
  have hk : ∀ c o, c ≠ z → c ≠ i1 → c ≠ i2 → s.heap.get? c = some o → h₃.get? c = some o := fun c o c1 c2 c3 e => hs₃.extBut _ _ c3 (hs₂.extBut _ _ c2 (hs₁.extBut _ _ c1 e))
  have h1₃ : h₃.IsTupleIter i1 l1 (k1 + 1) := h1₂.extBut hs₃.extBut D.i12
  refine wpAny_pure ⟨_, rfl, ?_⟩
  show Q (.ref h₃.objs.size) _
  have hp : IsPair (h₃.push { cls := .type "tuple", data := .seq #[x, y] }) h₃.objs.size x y := Heap.get?_push_size _ rfl
  have hz4 : (h₃.push { cls := .type "tuple", data := .seq #[x, y] }).objs.size = h₃.objs.size + 1 := Heap.size_push ..
  rw [hsz] at hp hz4 ⊢
  exact hQ _ (Heap.get?_push_of_some _ hz₃) (h1₃.at fun o e => Heap.get?_push_of_some _ e) (h2₃.at fun o e => Heap.get?_push_of_some _ e) hp hz4 fun c o c1 c2 c3 e => Heap.get?_push_of_some _ (hk c o c1 c2 c3 e)
theorem zipT_end_held {z TI TO T i1 i2 l1 l2 : Addr} {f : Bool} {oT : Obj} {k1 : Nat} {xs : Array Value} {Q : Fin → Shared → Prop} (hh : A.handled = none) (D : ZipApart z TI TO i1 i2 l1 l2)
    (hz : IsZipHeld s.heap z TI TO T f) (hT : s.heap.get? T = some oT) (hTI : IsPair s.heap TI (.ref i1) (.ref i2))
    (h1 : s.heap.IsTupleIter i1 l1 k1) (hl1 : s.heap.IsTuple l1 xs) (hend : xs[k1]? = none)
    (hE : ∀ h' e, (∀ c o, c ≠ z → c ≠ i1 → c ≠ i2 → s.heap.get? c = some o → h'.get? c = some o) → (∃ o, h'.get? e = some o ∧ o.cls = .type "StopIteration") → E (.ref e) { s with heap := h' }) :
    wpAny (model prog w) A (Builtin.«zip.__next__» ⟨[.ref z], []⟩) Q E s := by
  show wpAny _ _ (field (.ref z) 2 >>= _) _ _ _
  refine wpAny_bind (wpAny_field hz rfl (x := .bool false) rfl ?_)
  show wpAny _ _ (field (.ref z) 3 >>= _) _ _ _
  refine wpAny_bind (wpAny_field hz rfl (x := .ref TI) rfl ?_)
  refine wpAny_bind (wpAny_seqItems hTI rfl ?_)
  show wpAny _ _ (Builtin.SmallTypes.ownedTupleIsFree (.ref z) >>= _) _ _ _
  refine wpAny_bind (wpAny_tupleHeld_zip hz hT fun h₁ hz₁ hs₁ => ?_)
  simp only [Bool.false_eq_true, if_false]
  refine wpAny_bind ?_
  rw [← Array.forIn_toList]
  simp only [List.forIn_cons, List.forIn_nil]
  refine wpAny_bind (wpAny_bind (wpAny_holding ?_))
  show wpAny _ _ (Builtin.SmallTypes.nextOf (.ref i1) >>= _) _ _ _
  refine wpAny_bind (nextOf_tuple_end (s := { s with heap := h₁ }) hh (h1.extBut hs₁.extBut D.i1z) (hl1.extBut hs₁.extBut D.l1z) hend fun h₂ e hs₂ he => ?_)
  exact hE h₂ e (fun c o c1 c2 _ x => hs₂ _ _ c2 (hs₁.extBut _ _ c1 x)) he
theorem pyNext_zipT_item_held {z TI TO T i1 i2 l1 l2 : Addr} {f : Bool} {oT : Obj} {k1 k2 : Nat} {xs ys : Array Value} {x y : Value} {Q : Option Value → Shared → Prop} (D : ZipApart z TI TO i1 i2 l1 l2)
    (hz : IsZipHeld s.heap z TI TO T f) (hT : s.heap.get? T = some oT) (hTI : IsPair s.heap TI (.ref i1) (.ref i2))
    (h1 : s.heap.IsTupleIter i1 l1 k1) (h2 : s.heap.IsTupleIter i2 l2 k2) (hl1 : s.heap.IsTuple l1 xs) (hl2 : s.heap.IsTuple l2 ys) (hx : xs[k1]? = some x) (hy : ys[k2]? = some y)
    (hQ : ∀ h', IsZipHeld h' z TI TO T true → h'.IsTupleIter i1 l1 (k1 + 1) → h'.IsTupleIter i2 l2 (k2 + 1) → IsPair h' s.heap.objs.size x y → h'.objs.size = s.heap.objs.size + 1 →
      (∀ c o, c ≠ z → c ≠ i1 → c ≠ i2 → s.heap.get? c = some o → h'.get? c = some o) → Q (some (.ref s.heap.objs.size)) { s with heap := h' }) :
    wpAny (model prog w) A (pyNext (.ref z)) Q E s := by
  have hTy : s.TypeIs (.ref z) "zip" := ⟨_, hz, rfl⟩
  unfold pyNext
  exact wpAny_bind (wpAny_attempt (wpAny_callSpecial?_slot (name := Str.ofString "__next__") hTy F.slot_zip_next
    (wpAny_call_entry F.slot_zip_next hTy F.entry_zip_next
      (zipT_item_held D hz hT hTI h1 h2 hl1 hl2 hx hy fun h' a1 a3 a4 a5 a6 a7 => wpAny_pure (hQ h' a1 a3 a4 a5 a6 a7)) (F.args_zip_next_1 _))))
theorem pyNext_zipT_end_held {z TI TO T i1 i2 l1 l2 : Addr} {f : Bool} {oT : Obj} {k1 : Nat} {xs : Array Value} {Q : Option Value → Shared → Prop} (hh : A.handled = none) (D : ZipApart z TI TO i1 i2 l1 l2)
    (hz : IsZipHeld s.heap z TI TO T f) (hT : s.heap.get? T = some oT) (hTI : IsPair s.heap TI (.ref i1) (.ref i2))
    (h1 : s.heap.IsTupleIter i1 l1 k1) (hl1 : s.heap.IsTuple l1 xs) (hend : xs[k1]? = none)
    (hQ : ∀ h', (∀ c o, c ≠ z → c ≠ i1 → c ≠ i2 → s.heap.get? c = some o → h'.get? c = some o) → Q none { s with heap := h' }) : wpAny (model prog w) A (pyNext (.ref z)) Q E s := by
  have hTy : s.TypeIs (.ref z) "zip" := ⟨_, hz, rfl⟩
  unfold pyNext
  refine wpAny_bind (wpAny_attempt (wpAny_callSpecial?_slot (name := Str.ofString "__next__") hTy F.slot_zip_next
    (wpAny_call_entry F.slot_zip_next hTy F.entry_zip_next (zipT_end_held hh D hz hT hTI h1 hl1 hend fun h' e hk he => ?_) (F.args_zip_next_1 _))))
  obtain ⟨o, ho, hc⟩ := he
  refine wpAny_bind (wpAny_isInstance (T := "StopIteration") (b := true) ⟨o, ho, hc⟩ isSubtype_stop ?_)
  exact wpAny_pure (hQ _ hk)
end
/-! the list takes the pairs in -/
def StZ (z TI TO : Addr) (i : Nat) (h : Heap) : Prop := (∃ x y, IsPair h TO x y) ∧ ((i = 0 ∧ IsZip h z TI TO .none) ∨ ∃ T f oT, IsZipHeld h z TI TO T f ∧ h.get? T = some oT)
variable {X : Cx} {pins : List (Addr × Obj)} {σ : L2.St}
theorem zl_loop {A1 : Around} {Rs : Result → Shared → Prop} {H0 : Hp} {q a b z TI TO i1 i2 : Addr} {xs ys : List V} (D : ZipApart z TI TO i1 i2 a b) (hh : A1.in1.handled = none) (hn : ys.length = xs.length) (hl : xs.length ≤ 1000) (ha : SqT X.K H0 a xs) (hb : SqT X.K H0 b ys)
    (hdone : ∀ (ts : List Addr) H' s', Inv X pins σ H' s' → Same H0 H' → H' q = some (.lst (ts.map V.ref)) → ts.length = xs.length → (∀ (j : Nat) (x y : V), xs[j]? = some x → ys[j]? = some y → ∃ T, ts[j]? = some T ∧ H' T = some (.tup [x, y])) → Rs (.ok (.ret .none)) s') :
    ∀ (k i : Nat) (ts : List Addr) (H : Hp) (s : Shared), xs.length - i = k → i ≤ xs.length → Inv X pins σ H s → Same H0 H → H0 q = none → H q = some (.lst (ts.map V.ref)) → ts.length = i → (∀ (j : Nat) (x y : V), j < i → xs[j]? = some x → ys[j]? = some y → ∃ T, ts[j]? = some T ∧ H T = some (.tup [x, y])) →
      (∀ c ∈ [z, TI, TO, i1, i2], FpOk X pins H c) → StZ z TI TO i s.heap → IsPair s.heap TI (.ref i1) (.ref i2) → s.heap.IsTupleIter i1 a i → s.heap.IsTupleIter i2 b i →
      codeAny (model X.prog X.w) A1 (.builtin "list.extend.loop" ⟨[.ref q, .ref z, .none], []⟩) Rs s := by
  intro k
  induction k with
  | zero =>
    intro i ts H s hk hi I sm hq0 hq tl hts hf st hTI h1 h2
    have ei : i = xs.length := by omega
    subst ei
    refine codeAny_builtin PySem.F.entry_extend_loop ?_
    rw [Around.under_plainId PySem.F.plain_extend_loop _]
    show wpAny _ A1.in1 (pyNext (.ref z) >>= _) _ _ s
    obtain ⟨its, rv, p, _⟩ := I.tuple (same_seqT sm ha)
    obtain ⟨its2, rv2, p2, _⟩ := I.tuple (same_seqT sm hb)
    have l1 := rv.length
    have he : its.toArray[xs.length]? = none := by simp; omega
    have fin : ∀ h', (∀ c o, c ∉ [z, TI, TO, i1, i2] → s.heap.get? c = some o → h'.get? c = some o) → Rs (.ok (.ret .none)) { s with heap := h' } := fun h' hk' =>
      hdone ts H _ (I.turnedL (t' := s.toks) hk' hf) sm hq tl fun j x y hx hy => hts j x y (List.getElem?_eq_some_iff.mp hx).1 hx hy
    have sub : ∀ {h' : Heap}, (∀ c o, c ≠ z → c ≠ i1 → c ≠ i2 → s.heap.get? c = some o → h'.get? c = some o) → ∀ c o, c ∉ [z, TI, TO, i1, i2] → s.heap.get? c = some o → h'.get? c = some o := fun {h'} e c o hc => e c o (fun w => hc (by simp [w])) (fun w => hc (by simp [w])) (fun w => hc (by simp [w]))
    obtain ⟨⟨x0, y0, hTO⟩, st⟩ := st
    rcases st with ⟨e0, hz⟩ | ⟨T, f, oT, hz, hT⟩
    · refine wpAny_bind (pyNext_zipT_end hh D hz hTI hTO h1 h2 p p2 (.inl he) fun h' hk' => ?_)
      exact wpAny_pure (fin h' fun c o hc => hk' c o (fun w => hc (by simp [w])) (fun w => hc (by simp [w])) (fun w => hc (by simp [w])) (fun w => hc (by simp [w])))
    · refine wpAny_bind (pyNext_zipT_end_held hh D hz hT hTI h1 p he fun h' hk' => ?_)
      exact wpAny_pure (fin h' (sub hk'))
  | succ k ih =>
    intro i ts H s hk hi I sm hq0 hq tl hts hf st hTI h1 h2
    refine codeAny_builtin PySem.F.entry_extend_loop ?_
    rw [Around.under_plainId PySem.F.plain_extend_loop _]
    show wpAny _ A1.in1 (pyNext (.ref z) >>= _) _ _ s
    obtain ⟨its, rv, p, _⟩ := I.tuple (same_seqT sm ha)
    obtain ⟨its2, rv2, p2, _⟩ := I.tuple (same_seqT sm hb)
    obtain ⟨x, hx⟩ : ∃ x, xs[i]? = some x := ⟨_, List.getElem?_eq_getElem (by omega)⟩
    obtain ⟨y, hy⟩ : ∃ y, ys[i]? = some y := ⟨_, List.getElem?_eq_getElem (by omega)⟩
    obtain ⟨u, hu, ru⟩ := rv.get hx
    obtain ⟨u2, hu2, ru2⟩ := rv2.get hy
    obtain ⟨⟨x0, y0, hTO⟩, st⟩ := st
    have inl : ∀ c ∈ [z, TI, TO, i1, i2], c < s.heap.objs.size := by
      intro c hc
      have e' : c = z ∨ c = TI ∨ c = TO ∨ c = i1 ∨ c = i2 := by simpa using hc
      rcases e' with w | w | w | w | w
      · rw [w]
        rcases st with ⟨_, hz⟩ | ⟨_, _, _, hz, _⟩
        · exact Heap.lt_size hz
        · exact Heap.lt_size hz
      · rw [w]; exact Heap.lt_size hTI
      · rw [w]; exact Heap.lt_size hTO
      · rw [w]; obtain ⟨_, e1, _⟩ := h1; exact Heap.lt_size e1
      · rw [w]; obtain ⟨_, e2, _⟩ := h2; exact Heap.lt_size e2
    have qfp : q ∉ [z, TI, TO, i1, i2] := fun w => by
      have e := (hf q w).1
      rw [hq] at e
      cases e
    -- behind the next pair
    have go : ∀ h' : Heap, (∀ c o, c ∉ [z, TI, TO, i1, i2] → s.heap.get? c = some o → h'.get? c = some o) → IsPair h' s.heap.objs.size u u2 → StZ z TI TO (i + 1) h' → IsPair h' TI (.ref i1) (.ref i2) → h'.IsTupleIter i1 a (i + 1) → h'.IsTupleIter i2 b (i + 1) →
        wpAny (model X.prog X.w) A1.in1 (updateSeq q (·.push (.ref s.heap.objs.size)) >>= fun _ => again (.builtin "list.extend.loop" ⟨[.ref q, .ref z, .none], []⟩)) (fun fin s' => match fin with | .done f => Rs (.ok f) s' | .again c' => c'.quiet = true ∧ codeAny (model X.prog X.w) A1 c' Rs s') (fun e s' => Rs (.error e) s') { s with heap := h' } := by
      intro h' hk' hT' st' hTI' h1' h2'
      have new : ObjOk X.prog X.w (upd H s.heap.objs.size (.tup [x, y])) h' s.heap.objs.size (.tup [x, y]) :=
        ⟨by show 2 ≤ sizeLine; decide, [u, u2], .cons ru (.cons ru2 .nil), ⟨_, hT', rfl, _, rfl⟩⟩
      have I1 : Inv X pins σ (upd H s.heap.objs.size (.tup [x, y])) { s with heap := h' } := I.turnedNew (t' := s.toks) (ch := [z, TI, TO, i1, i2]) hk' hf (Nat.le_refl _) new
      have fr : H s.heap.objs.size = none := I.hok.fresh (Nat.le_refl _)
      have nq : q ≠ s.heap.objs.size := ne_of_none hq fr
      have hq1 : upd H s.heap.objs.size (.tup [x, y]) q = some (.lst (ts.map V.ref)) := by rw [upd_ne nq]; exact hq
      obtain ⟨zz, its3, kk, r3, hl3, e⟩ := I1.lstM hq1
      have hl4 : its3.length = i := by rw [← hl3, List.length_map, tl]
      have line : i + 1 ≤ sizeLine := small1000 (by omega)
      refine wpAny_bind (wpAny_updateSeq e rfl (wpAny_pure ⟨plainId_quiet PySem.F.plain_extend_loop _, ?_⟩) (by rw [List.size_toArray]; omega) (by show (its3.toArray.push _).size ≤ sizeLine + 1; rw [Array.size_push, List.size_toArray]; omega))
      have I2 := I1.lset (f := (·.push (Value.ref s.heap.objs.size))) (its' := its3 ++ [.ref s.heap.objs.size]) (ys := ts.map V.ref ++ [.ref s.heap.objs.size]) (t' := s.toks) hq1 e (by simp) (r3.append (.cons (show RelV (V.ref s.heap.objs.size) (Value.ref s.heap.objs.size) from rfl) .nil)) (by rw [List.length_append, List.length_map, List.length_singleton, tl]; exact line)
      have other : ∀ c o, c ≠ q → h'.get? c = some o → (h'.update q (Obj.mapSeq (·.push (Value.ref s.heap.objs.size)))).get? c = some o := fun c o n e => (Heap.get?_update_other _ _ (Ne.symm n)).trans e
      have qz : ∀ c ∈ [z, TI, TO, i1, i2], c ≠ q := fun c hc w => qfp (by rw [← w]; exact hc)
      refine ih (i + 1) (ts ++ [s.heap.objs.size]) (upd (upd H s.heap.objs.size (.tup [x, y])) q (.lst (ts.map V.ref ++ [.ref s.heap.objs.size]))) _ (by omega) (by omega) I2 (fun c o e => ?_) hq0 (by rw [upd_same, List.map_append]; rfl) (by rw [List.length_append, tl]; rfl) (fun j x' y' hj hx' hy' => ?_) (fun c hc => ?_) ?_ (other _ _ (qz _ (by simp)) hTI') (h1'.at fun o e => other _ o (qz _ (by simp)) e) (h2'.at fun o e => other _ o (qz _ (by simp)) e)
      · rw [upd_ne (ne_of_none e hq0), upd_ne (ne_of_none (sm c o e) fr)]
        exact sm c o e
      · by_cases lt : j < i
        · obtain ⟨T, hT, eT⟩ := hts j x' y' lt hx' hy'
          refine ⟨T, by rw [List.getElem?_append_left (by omega)]; exact hT, ?_⟩
          rw [upd_ne (ne_of eT hq (fun w => nomatch w)), upd_ne (ne_of_none eT fr)]
          exact eT
        · have ej : j = i := by omega
          subst ej
          rw [hx] at hx'
          rw [hy] at hy'
          cases hx'
          cases hy'
          exact ⟨_, by rw [List.getElem?_append_right (by omega), tl, Nat.sub_self]; rfl, by rw [upd_ne nq.symm, upd_same]⟩
      · obtain ⟨f0, f⟩ := hf c hc
        exact ⟨by rw [upd_ne (qz c hc), upd_ne (Nat.ne_of_lt (inl c hc))]; exact f0, f⟩
      · obtain ⟨⟨x1, y1, hTO'⟩, st'⟩ := st'
        refine ⟨⟨x1, y1, other _ _ (qz _ (by simp)) hTO'⟩, ?_⟩
        rcases st' with ⟨e0, _⟩ | ⟨T, f, oT, hz, hT⟩
        · omega
        · refine .inr ?_
          by_cases w : T = q
          · rw [w] at hz hT
            exact ⟨q, f, _, other _ _ (qz _ (by simp)) hz, Heap.get?_update_self _ e rfl⟩
          · exact ⟨T, f, oT, other _ _ (qz _ (by simp)) hz, other _ _ w hT⟩
    have sub : ∀ {h' : Heap}, (∀ c o, c ≠ z → c ≠ i1 → c ≠ i2 → s.heap.get? c = some o → h'.get? c = some o) → ∀ c o, c ∉ [z, TI, TO, i1, i2] → s.heap.get? c = some o → h'.get? c = some o := fun {h'} e c o hc => e c o (fun w => hc (by simp [w])) (fun w => hc (by simp [w])) (fun w => hc (by simp [w]))
    rcases st with ⟨e0, hz⟩ | ⟨T, f, oT, hz, hT⟩
    · refine wpAny_bind (pyNext_zipT_item D hz hTI hTO h1 h2 p p2 (x := u) (y := u2) (by simpa using hu) (by simpa using hu2) fun h' z' TO' h1' h2' hT' hsz hk' => ?_)
      exact go h' (fun c o hc => hk' c o (fun w => hc (by simp [w])) (fun w => hc (by simp [w])) (fun w => hc (by simp [w])) (fun w => hc (by simp [w]))) hT' ⟨⟨_, _, TO'⟩, .inr ⟨_, _, _, z', hT'⟩⟩ (hk' _ _ D.TIz D.TITO D.TIi1 D.TIi2 hTI) h1' h2'
    · refine wpAny_bind (pyNext_zipT_item_held D hz hT hTI h1 h2 p p2 (x := u) (y := u2) (by simpa using hu) (by simpa using hu2) fun h' z' h1' h2' hT' hsz hk' => ?_)
      refine go h' (sub hk') hT' ⟨⟨_, _, hk' _ _ D.TOz D.TOi1 D.TOi2 hTO⟩, .inr ?_⟩ (hk' _ _ D.TIz D.TIi1 D.TIi2 hTI) h1' h2'
      by_cases w1 : T = z
      · subst w1
        exact ⟨_, _, _, z', z'⟩
      · by_cases w2 : T = i1
        · subst w2
          obtain ⟨o, e, _⟩ := h1'
          exact ⟨_, _, _, z', e⟩
        · by_cases w3 : T = i2
          · subst w3
            obtain ⟨o, e, _⟩ := h2'
            exact ⟨_, _, _, z', e⟩
          · exact ⟨_, _, _, z', hk' _ _ w1 w2 w3 hT⟩
def tListZip (K : PySem.W.Frag) (t : TA) : TE := fun σ H Q => t σ H fun vs H1 => ∃ (a b : Addr) (xs ys : List V), vs = [.ref a, .ref b] ∧ SqT K H1 a xs ∧ SqT K H1 b ys ∧ ys.length = xs.length ∧ xs.length ≤ 1000 ∧
  ∀ (q : Addr) (ts : List Addr) H', Same H1 H' → H1 q = none → H' q = some (.lst (ts.map V.ref)) → ts.length = xs.length → (∀ (j : Nat) (x y : V), xs[j]? = some x → ys[j]? = some y → ∃ T, ts[j]? = some T ∧ H' T = some (.tup [x, y])) → Q (.ref q) H'
theorem pe_listZip {e e2 : Expr} {t : TA} {p p2 pos cpos : Pos} (hc : X.calm = true) (hg : Gl X "list") (hm : X.mg "list" = none) (hv : bootBuiltins "list" = some (.type "list")) (hg2 : Gl X "zip") (hm2 : X.mg "zip" = none) (ha : L2.PA X [e, e2] t)
    (hs : starEach [.Call (.Name "zip" p2) [e, e2] [] cpos] X.env = (false, eval (.Call (.Name "zip" p2) [e, e2] [] cpos) X.env) :: starEach [] X.env := by rfl)
    (hs2 : starEach [e, e2] X.env = (false, eval e X.env) :: starEach [e2] X.env := by rfl) (hpl : (backTo cpos (starEach [e2] X.env)).any (·.1) = false := by rfl) :
    PE X (.Call (.Name "list" p) [.Call (.Name "zip" p2) [e, e2] [] cpos] [] pos) (tListZip X.K t) := by
  refine ⟨fun pins s σ H Q I hq => ?_⟩
  refine wpAny_Call_Name_kw (ld_blt I hg hm hv ?_)
  refine PyProof.Rows.callWith_type1 ?_ hs rfl
  rw [hs]
  show wpAny _ _ (spliced ((false, eval (.Call (.Name "zip" p2) [e, e2] [] cpos) X.env) :: backTo pos (starEach [] X.env))) _ _ s
  refine Calls.spliced_cons ?_
  refine PyProof.Rows.Call_ (ld_blt I hg2 hm2 PyProof.Rows.boot_zip (PyProof.Rows.callWith_type1 (thn (ha.run cpos pins s σ H _ I hq) fun us s1 ⟨vs, H1, I1, r1, q1⟩ => ?_) hs2 hpl))
  obtain ⟨a, b, xs, ys, ex, hqx, hqy, hn, hl, q1⟩ := q1
  subst ex
  cases r1 with
  | cons r rr =>
    cases rr with
    | cons r' rr =>
      cases rr
      cases r
      cases r'
      obtain ⟨its, rv, p1, _⟩ := I1.tuple hqx
      obtain ⟨its2, rv2, p2', _⟩ := I1.tuple hqy
      obtain ⟨o1, ho1, _⟩ := id p1
      obtain ⟨o2, ho2, _⟩ := id p2'
      refine call_zipT (show s1.heap.IsTuple a its.toArray from p1) (show s1.heap.IsTuple b its2.toArray from p2') fun h' hz hTI hTO h1 h2 hsz hk => ?_
      have I2 : Inv X pins σ H1 { s1 with heap := h' } := I1.kept (t' := s1.toks) hk
      have D := PySem.W.ktu_apart s1.heap.objs.size a b (Heap.lt_size ho1) (Heap.lt_size ho2)
      have in5 : ∀ c, c ∈ [s1.heap.objs.size + 4, s1.heap.objs.size + 2, s1.heap.objs.size + 3, s1.heap.objs.size, s1.heap.objs.size + 1] → s1.heap.objs.size ≤ c ∧ c < h'.objs.size := fun c hcm => by
        have e' : c = s1.heap.objs.size + 4 ∨ c = s1.heap.objs.size + 2 ∨ c = s1.heap.objs.size + 3 ∨ c = s1.heap.objs.size ∨ c = s1.heap.objs.size + 1 := by simpa using hcm
        rw [hsz]
        rcases e' with z | z | z | z | z
        · rw [z]; exact ⟨Nat.le_add_right _ _, Nat.add_lt_add_left (by decide) _⟩
        · rw [z]; exact ⟨Nat.le_add_right _ _, Nat.add_lt_add_left (by decide) _⟩
        · rw [z]; exact ⟨Nat.le_add_right _ _, Nat.add_lt_add_left (by decide) _⟩
        · rw [z]; exact ⟨Nat.le_refl _, Nat.lt_add_of_pos_right (by decide)⟩
        · rw [z]; exact ⟨Nat.le_add_right _ _, Nat.add_lt_add_left (by decide) _⟩
      refine Calls.spliced_nil ?_
      refine callType_codes (Q₁ := fun obj s₁ => obj = .ref h'.objs.size ∧ s₁ = { s1 with heap := h'.push { cls := .type "list", data := .seq #[] } }) PySem.F.called_list (PySem.F.typeCall_list_1 _) PySem.F.entry_list_init
        (code_list_new _ ⟨rfl, rfl⟩) fun obj s₁ h₁ => ?_
      obtain ⟨rfl, rfl⟩ := h₁
      have hS : (h'.push { cls := .type "list", data := .seq #[] }).get? h'.objs.size = some { cls := .type "list", data := .seq #[] } := Heap.get?_push_size _ rfl
      refine ⟨⟨_, hS, rfl⟩, PySem.F.args_list_init_2 _ _, ?_⟩
      have fr : H1 h'.objs.size = none := I2.hok.fresh (Nat.le_refl _)
      have I3 : Inv X pins σ (upd H1 h'.objs.size (.lst [])) { s1 with heap := h'.push { cls := .type "list", data := .seq #[] } } := I2.lnew (its := []) (t' := s1.toks) .nil (Nat.zero_le _)
      show wpAny _ _ (do let old ← Builtin.List.listItems (.ref h'.objs.size); Builtin.List.listUpdate (.ref h'.objs.size) (fun _ => #[]); letGo old.toList.reverse; Builtin.List.listExtendWith (.ref h'.objs.size) (.ref (s1.heap.objs.size + 4)) .none) _ _ _
      refine wpAny_bind ?_
      unfold Builtin.List.listItems
      refine wpAny_bind (wpAny_seqItems hS rfl (wpAny_pure ?_))
      show wpAny _ _ (updateSeq h'.objs.size (fun _ => #[]) >>= fun _ => letGo (#[] : Array Value).toList.reverse >>= fun _ => Builtin.List.listExtendWith (.ref h'.objs.size) (.ref (s1.heap.objs.size + 4)) .none) _ _ _
      refine wpAny_bind (wpAny_updateSeq hS rfl ?_)
      have I4 := I3.lset (f := fun _ => #[]) (its := []) (its' := []) (ys := []) (t' := s1.toks) upd_same hS rfl .nil (Nat.zero_le _)
      rw [upd_upd] at I4
      refine wpAny_bind (wpAny_letGo ?_)
      have S5 : h'.objs.size ∉ [s1.heap.objs.size + 4, s1.heap.objs.size + 2, s1.heap.objs.size + 3, s1.heap.objs.size, s1.heap.objs.size + 1] := fun w => Nat.lt_irrefl _ (in5 _ w).2
      have up : ∀ {f : Array Value → Array Value} c o, c ≠ h'.objs.size → (h'.push { cls := .type "list", data := .seq #[] }).get? c = some o → ((h'.push { cls := .type "list", data := .seq #[] }).update h'.objs.size (Obj.mapSeq f)).get? c = some o := fun {f} c o n e => (Heap.get?_update_other _ _ (Ne.symm n)).trans e
      have nz : s1.heap.objs.size + 4 ≠ h'.objs.size := fun w => S5 (by rw [← w]; simp)
      have hz4 : IsZip ((h'.push { cls := .type "list", data := .seq #[] }).update h'.objs.size (Obj.mapSeq fun _ => #[])) (s1.heap.objs.size + 4) (s1.heap.objs.size + 2) (s1.heap.objs.size + 3) .none := up _ _ nz (Heap.get?_push_of_some _ hz)
      unfold Builtin.List.listExtendWith
      refine wpAny_bind (wpAny_typeOf_ref hz4 ?_)
      have e1 : Builtin.List.listSameRef (.ref h'.objs.size) (.ref (s1.heap.objs.size + 4)) = false := by simp [Builtin.List.listSameRef, Ne.symm nz]
      have e2 : (Value.type "zip" == Value.type "list") = false := by decide
      have e3 : (Value.type "zip" == Value.type "tuple") = false := by decide
      simp only [e1, e2, e3, Bool.or_false, Bool.false_eq_true, if_false]
      refine wpAny_bind (wpAny_pyIter_zip hz4 ?_)
      refine wpAny_bind (wpAny_holding ?_)
      unfold Builtin.List.listLengthHint
      refine wpAny_bind (wpAny_specialOf (T := "zip") ⟨_, hz4, rfl⟩ zip_no_len ?_)
      refine PySem.W.KFB.if_not rfl ?_
      refine PySem.W.KFB.if_not rfl ?_
      refine wpAny_bind (wpAny_specialOf (T := "zip") ⟨_, hz4, rfl⟩ zip_no_hint ?_)
      refine wpAny_pure ?_
      have hT0 := hTI
      have p5 : ∀ c o, c ≠ h'.objs.size → h'.get? c = some o → ((h'.push { cls := .type "list", data := .seq #[] }).update h'.objs.size (Obj.mapSeq fun _ => #[])).get? c = some o := fun c o n e => up _ _ n (Heap.get?_push_of_some _ e)
      have nS : ∀ c ∈ [s1.heap.objs.size + 4, s1.heap.objs.size + 2, s1.heap.objs.size + 3, s1.heap.objs.size, s1.heap.objs.size + 1], c ≠ h'.objs.size := fun c hc w => S5 (by rw [← w]; exact hc)
      have run : ∀ s' : Shared, Inv X pins σ (upd H1 h'.objs.size (.lst [])) s' → (∀ c o, c ≠ h'.objs.size → h'.get? c = some o → s'.heap.get? c = some o) →
          codeAny (model X.prog X.w) X.A.in1 (.builtin "list.extend.loop" ⟨[.ref h'.objs.size, .ref (s1.heap.objs.size + 4), .none], []⟩) (wants (fun r s₂ => r = .none ∧ EP X pins σ Q (.ref h'.objs.size) s₂) X.xe) s' := fun s' I' kp => by
        refine zl_loop (A1 := X.A.in1) D (show X.A.handled = none from I'.ok.hd hc) hn hl hqx hqy (fun ts H' s'' J sm e l pr => ⟨rfl, .ref h'.objs.size, H', J, rfl, q1 _ ts H' sm fr e l pr⟩) xs.length 0 [] _ s' (by omega) (Nat.zero_le _) I' (fun b o e => by rw [upd_ne (ne_of_none e fr)]; exact e) fr upd_same rfl (fun j x y h => absurd h (Nat.not_lt_zero _)) (fun c hcm => ?_) ?_ (kp _ _ (nS _ (by simp)) hTI) (h1.at fun o e => kp _ o (nS _ (by simp)) e) (h2.at fun o e => kp _ o (nS _ (by simp)) e)
        · have f := I1.fpOk (in5 c hcm).1 (I1.hok.fresh (in5 c hcm).1)
          exact ⟨by rw [upd_ne (nS c hcm)]; exact f.1, f.2⟩
        · exact ⟨⟨_, _, kp _ _ (nS _ (by simp)) hTO⟩, .inl ⟨rfl, kp _ _ nz hz⟩⟩
      refine wpAny_ite_split (fun _ => ?_) (fun _ => wpAny_pure ⟨plainId_quiet PySem.F.plain_extend_loop _, run _ I4 p5⟩)
      obtain ⟨z3, its3, k3, r3, hl3, e3'⟩ := I4.lstM upd_same
      cases r3
      refine wpAny_bind (wpAny_rule ?_)
      refine wpAny_bind ?_
      show wpAny _ _ (updateSeq h'.objs.size (·.push .none) >>= fun _ => updateSeq h'.objs.size (·.pop)) _ _ _
      refine wpAny_bind (wpAny_updateSeq e3' rfl ?_)
      have I5 := I4.lset (f := (·.push Value.none)) (its' := [Value.none]) (ys := [.non]) (t' := s1.toks) upd_same e3' (by simp) (.cons rfl .nil) (by rw [List.length_singleton, sizeLine_eq]; decide)
      obtain ⟨z4, its4, k4, r4, hl4, e4⟩ := I5.lstM upd_same
      obtain ⟨u4, rfl, ru4⟩ := r4.one
      refine wpAny_updateSeq e4 rfl ?_ (by show 1 ≤ sizeLine; rw [sizeLine_eq]; decide) (by show 0 ≤ sizeLine + 1; exact Nat.zero_le _)
      have I6 := I5.lset (f := (·.pop)) (its := [u4]) (its' := []) (ys := []) (t' := s1.toks) upd_same e4 (by rfl) .nil (Nat.zero_le _)
      rw [upd_upd, upd_upd] at I6
      refine wpAny_pure ⟨plainId_quiet PySem.F.plain_extend_loop _, run _ I6 fun c o n e => ?_⟩
      exact (Heap.get?_update_other _ _ (Ne.symm n)).trans ((Heap.get?_update_other _ _ (Ne.symm n)).trans (p5 c o n e))
end
end Yd
namespace Yd
open PySem L2
/-! ### list(o): an instance whose __iter__ gives the iterator of a dict with tuple keys, with a __len__ of its own -/
section
open PySem.W PySem.Calls
variable {X : Cx} {pins : List (Addr × Obj)} {σ : St} {H : Hp} {s : Shared} {A : Around}
variable {k : Nat} {f C : Addr} {fd : FuncData} {ps : List Str} {us : List Value} {vs : List V} {Q : VK} {E : Value → Shared → Prop} {E0 : XK}
variable {fi fl a d : Addr} {fdi fdl : FuncData} {psi psl : List Str} {sp : Nat → Sp} {spl : Sp} {dx : Addr} {fs : List (Str × V)} {od : Obj} {kvs : List (List Key × V)}
/-- where the list S takes in what o's iterator gives -/
theorem own_extR {S : Addr} {ret : Value} {A1 : Around} {R : Result → Shared → Prop} (c : StarC X.K C fi fl) (FI : FnN X.prog X.w X.K X.mg X.base k fi fdi psi sp) (bI : Binds X.K fdi psi []) (FL : FnOk X.prog X.w X.K X.mg X.base CX0 k fl fdl psl spl) (bL : Binds X.K fdl psl [])
    (sb0 : Sub X (k + 2) A1) (hh : A1.handled = none) (fpS : FpOk X pins H S) (I2 : Inv X ((S, ({ cls := .type "list", data := .seq #[] 0 } : Obj)) :: pins) σ H s) (ha : H a = some (.ins C dx fs)) (hd : H d = some (.frz od (.dT kvs)))
    (hi : ∀ n, sp n [.ref a] H (fun v H2 => ∃ it, v = .ref it ∧ n ≤ it ∧ H it = none ∧ H2 = upd H it (KIo d it od kvs.length)) (fun _ _ _ => False))
    (hl : ∀ H2, H2 a = some (.ins C dx fs) → H2 d = some (.frz od (.dT kvs)) → spl [.ref a] H2 (fun v H' => H' = H2 ∧ ∃ n : Nat, v = .int n ∧ n ≤ sizeLine) (fun _ _ _ => False))
    (hR : ∀ (bs : List Addr) s' c', Inv X pins σ H s' → IsKeys H kvs bs → s'.heap.get? S = some { cls := .type "list", dict := none, data := .seq (bs.map Value.ref).toArray c', slots := #[] } → R (.ok (.ret ret)) s') :
    wpAny (model X.prog X.w) A1.in1 (Builtin.List.listExtendWith (.ref S) (.ref a) ret)
      (fun fin s' => match fin with | .done f => R (.ok f) s' | .again c' => c'.quiet = true ∧ codeAny (model X.prog X.w) A1 c' R s') (fun e s' => R (.error e) s') s := by
  have sb1 : Sub X (k + 1) A1.in1 := Sub.in1 sb0
  obtain ⟨m1, hF1⟩ := I2.fr
  obtain ⟨mA1, O1, _⟩ := ins_get I2.hok ha
  obtain ⟨oa1, J1, _⟩ := O1.look
  have hne : S ≠ a := fun z => by rw [← z, fpS.1] at ha; cases ha
  unfold Builtin.List.listExtendWith
  refine wpAny_bind (J1.type.here ?_)
  have h1 : Builtin.List.listSameRef (.ref S) (.ref a) = false := by simp [Builtin.List.listSameRef, hne]
  have h2 : (Value.ref C == Value.type "list") = false := rfl
  have h3 : (Value.ref C == Value.type "tuple") = false := rfl
  simp only [h1, h2, h3, Bool.or_false, Bool.false_eq_true, if_false]
  refine wpAny_bind (owit_iter hF1 I2.ok.mod.kin J1 c.it.at_ c.it.fn (wpAny_mono (run_subN (sb1.mono (Nat.le_succ k)) FI bI I2 (us := [.ref a]) (vs := [.ref a]) (.cons rfl .nil) (hi _)) (fun v s2 hv => ?_) fun _ _ z => z))
  obtain ⟨v', H2, I3, rv, it, ev, hn, hit, eH⟩ := hv
  subst ev
  obtain rfl : v = Value.ref it := rv
  have e2 : H2 it = some (KIo d it od kvs.length) := by rw [eH, upd_same]
  have young : X.s_0.heap.objs.size ≤ it := Nat.le_trans I2.sz hn
  have hd2 : H2 d = some (.frz od (.dT kvs)) := by rw [eH, upd_ne (ne_of_none hd hit)]; exact hd
  have ha2 : H2 a = some (.ins C dx fs) := by rw [eH, upd_ne (ne_of_none ha hit)]; exact ha
  have hT : s2.TypeIs (.ref it) "dict_keyiterator" := by
    obtain ⟨⟨es, ep, hdd, st⟩, _⟩ := (show ObjOk X.prog X.w H2 s2.heap it (KIo d it od kvs.length) from I3.hok it _ e2)
    exact let ⟨o, ho, hc, _⟩ := st; ⟨o, ho, hc⟩
  unfold OwitIt
  refine wpAny_specialOf hT PySem.F.slot_dict_keyiterator_next.lookup ?_
  refine wpAny_bind (wpAny_holding (hint_own sb1 c.ln FL bL I3 ha2 (hl H2 ha2 hd2) fun b s3 I4 => ?_))
  obtain ⟨⟨es, ep, hdd, st⟩, _⟩ := (show ObjOk X.prog X.w H2 s3.heap it (KIo d it od kvs.length) from I4.hok it _ e2)
  obtain ⟨hod, z, hsy, ks, pr, o', es', ep', ho, hx, hdt, he, hnd⟩ := I4.hok d _ hd2
  rw [hod] at ho
  cases ho
  rw [hdd] at hdt
  cases hdt
  have hS3 : s3.heap.get? S = some { cls := .type "list", data := .seq #[] 0 } := (I4.pin _ (List.mem_append_right _ (List.mem_cons_self ..))).1
  have l1 : es.size = ks.length := size_of_entries he
  have l2 : kvs.length = ks.length := Paired.length pr
  have hSit : S ≠ it := fun q => by
    have w := (I4.pin _ (List.mem_append_right _ (List.mem_cons_self ..))).2.1
    rw [q, e2] at w
    cases w
  have hSd : S ≠ d := fun q => by
    have w := (I4.pin _ (List.mem_append_right _ (List.mem_cons_self ..))).2.1
    rw [q, hd2] at w
    cases w
  have hdit : d ≠ it := ne_of hd2 e2 (fun z => nomatch z)
  have W := walks_raw (prog := X.prog) (w := X.w) (A := A1.in1) (o := od) (es := es) (ep := ep) hh it d hdit hdd
  rw [l2, ← l1] at st
  have hSf : S ∉ [it, d] := by simp only [List.mem_cons, List.not_mem_nil, or_false, not_or]; exact ⟨hSit, hSd⟩
  have I5 : Inv X pins σ (ItX.dropH H2 it) s3 := by
    have w := e2
    unfold KIo at w
    exact ItX.inv_drop (pinO I4) w
  have fpI : FpOk X pins (ItX.dropH H2 it) it := ItX.inv_fp (pinO I4) e2 young
  have hdrop : ItX.dropH H2 it = H := by rw [eH]; exact ItX.dropH_upd hit
  rw [hdrop] at I5 fpI
  have pr' : KT H kvs ks := by
    have up : ∀ b xs, H2 b = some (.tup xs) → H b = some (.tup xs) := fun b xs e => by
      have hb : b ≠ it := fun q => by rw [q, e2] at e; cases e
      rw [eH, upd_ne hb] at e
      exact e
    exact kt_up up pr
  -- the loop
  have key : ∀ (h : Heap) (c₁ tk : Nat), h.IsKeyIter it d 0 es.size ep ∧ h.get? d = some od → (∀ b o, b ≠ S → s3.heap.get? b = some o → h.get? b = some o) → h.get? S = some { cls := .type "list", data := .seq #[] c₁ } →
      codeAny (model X.prog X.w) A1 (.builtin "list.extend.loop" ⟨[.ref S, .ref it, ret], []⟩) R { s3 with heap := h, toks := tk } := by
    intro h c₁ tk hst hk hS₁
    refine codeAny_extend_loopS W.toS (by omega) S hSf ret es.size 0 _ #[] c₁ rfl (Nat.zero_le _) hst hS₁ (ItemsOf.nil _) fun s' acc' c' hm hS' hacc => ?_
    have ke : ∀ b o, b ∉ [S, it] → s3.heap.get? b = some o → s'.heap.get? b = some o := fun b o hb e => by
      simp only [List.mem_cons, List.not_mem_nil, or_false, not_or] at hb
      exact hm.heap b o (by simp only [List.mem_cons, List.not_mem_nil, or_false, not_or]; exact hb) (hk b o hb.1 e)
    have ea : acc'.toList = ks.map fun x => Value.ref x.2.1 := by
      have hll : acc'.toList.length = ks.length := by rw [Array.length_toList, hacc.1]; exact l1
      apply List.ext_getElem?
      intro j
      rw [List.getElem?_map]
      cases hj : acc'.toList[j]? with
      | none =>
        have h1 := List.getElem?_eq_none_iff.mp hj
        rw [List.getElem?_eq_none (by omega)]
        all_goals rfl
      | some v =>
        obtain ⟨en, hen, hv⟩ := hacc.2 j v (by rw [← Array.getElem?_toList]; exact hj)
        have qe := entry_at he j
        rw [hen] at qe
        cases hb : ks[j]? with
        | none =>
          rw [hb] at qe
          exact nomatch (show some en = none from qe)
        | some b =>
          rw [hb] at qe
          have e2 : en = entryOfKey (tupleKind (mixKind X.prog X.w)) b := Option.some.inj qe
          rw [hv, e2]
          all_goals rfl
    have eb : acc'.toList = (ks.map fun x => x.2.1).map Value.ref := by rw [ea, List.map_map]; all_goals rfl
    have ec : acc' = ((ks.map fun x => x.2.1).map Value.ref).toArray := by rw [← eb]
    rw [ec] at hS'
    have es' := Moved.eq_with hm
    have J6 : Inv X pins σ H { s3 with heap := s'.heap, toks := s'.toks } := Inv.turnedL (ch := [S, it]) (t' := s'.toks) I5 ke fun b hb => by
      rcases List.mem_cons.mp hb with q | q
      · rw [q]; exact fpS
      · rw [List.mem_singleton.mp q]; exact fpI
    exact hR _ s' c' (by rw [es']; exact J6) (isKeys_of pr') hS'
  refine wpAny_ite_split (fun _ => ?_) (fun _ => wpAny_pure ⟨plainId_quiet PySem.F.plain_extend_loop _, key s3.heap 0 s3.toks ⟨st, hod⟩ (fun b o _ e => e) hS3⟩)
  refine wpAny_bind (wpAny_rule ?_)
  refine wpAny_bind ?_
  show wpAny _ _ (updateSeq S (·.push .none) >>= fun _ => updateSeq S (·.pop)) _ _ _
  refine wpAny_bind (wpAny_updateSeq hS3 rfl ?_)
  have hS₂ := Heap.get?_update_self (Obj.mapSeq (·.push Value.none)) hS3 rfl
  refine wpAny_updateSeq (hz := by seq_fits) hS₂ rfl ?_
  have hS₃ := Heap.get?_update_self (Obj.mapSeq (·.pop)) hS₂ rfl
  refine wpAny_pure ⟨plainId_quiet PySem.F.plain_extend_loop _, key _ _ _ ?_ (fun b o hb e => ?_) hS₃⟩
  · refine W.frame 0 _ _ ⟨st, hod⟩ fun b hb o e => ?_
    have hbS : b ≠ S := fun h => hSf (h ▸ hb)
    exact (Heap.get?_update_other _ _ (Ne.symm hbS)).trans ((Heap.get?_update_other _ _ (Ne.symm hbS)).trans e)
  · exact (Heap.get?_update_other _ _ (Ne.symm hb)).trans ((Heap.get?_update_other _ _ (Ne.symm hb)).trans e)

/-- a thing of ours that stands is told of from here on -/
theorem inv_track {T : Addr} {ob : HO} (I : Inv X pins σ H s) (f : FpOk X pins H T) (new : ObjOk X.prog X.w (upd H T ob) s.heap T ob) : Inv X pins σ (upd H T ob) s := by
  have hn := f.1
  refine I.step (h' := s.heap) (t' := s.toks) (g' := s.gens) (d' := s.drawn) (ch := [T]) (fun b hb => by rw [List.mem_singleton.mp hb]; exact ⟨f.2.2.2.1, f.2.1, f.2.2.2.2.1, f.2.2.2.2.2⟩) (fun b o _ _ _ e _ => e) (fun b o _ _ _ e _ => ⟨o.slots, e⟩)
    (fun b o hb e n => by rw [upd_ne (fun w => hb (by simp [w]))]; exact n) (fun b o _ e => ⟨o, e⟩) (fun b xs e => ?_) (fun b o u e => ?_) (fun b ps e => ⟨#[], ?_⟩) (fun m hm => hm) (fun b u e => ?_) I.bare
  · rw [upd_ne (ne_of_none e hn)]; exact e
  · rw [upd_ne (ne_of_none e hn)]; exact e
  · rw [upd_ne (ne_of_none e hn), e]; simp
  · by_cases hb : b = T
    · subst hb
      rw [upd_same] at e
      cases e
      exact new
    · rw [upd_ne hb] at e
      exact (I.hok b u e).stay (fun c v hc q => q) (fun c q => by rw [upd_ne (ne_of_none q hn)]; exact q) fun c xs q => by rw [upd_ne (ne_of_none q hn)]; exact q
def rListO (C : Addr) (sp : Nat → Sp) (spl : Sp) : List V → Hp → VK → Prop := fun xs H Q => ∃ a dx fs d od kvs, xs = [V.ref a] ∧ H a = some (.ins C dx fs) ∧ H d = some (.frz od (.dT kvs)) ∧
  (∀ n, sp n [.ref a] H (fun v H2 => ∃ it, v = .ref it ∧ n ≤ it ∧ H it = none ∧ H2 = upd H it (KIo d it od kvs.length)) (fun _ _ _ => False)) ∧
  (∀ H2, H2 a = some (.ins C dx fs) → H2 d = some (.frz od (.dT kvs)) → spl [.ref a] H2 (fun v H' => H' = H2 ∧ ∃ n : Nat, v = .int n ∧ n ≤ sizeLine) (fun _ _ _ => False)) ∧ kvs.length ≤ sizeLine ∧
  ∀ (bs : List Addr) (q : Addr), H q = none → IsKeys H kvs bs → Q (.ref q) (upd H q (.lst (bs.map V.ref)))
theorem call_listO (c : StarC X.K C fi fl) (FI : FnN X.prog X.w X.K X.mg X.base k fi fdi psi sp) (bI : Binds X.K fdi psi []) (FL : FnOk X.prog X.w X.K X.mg X.base CX0 k fl fdl psl spl) (bL : Binds X.K fdl psl [])
    (hr : Room (k + 3) X.A) (hc : X.calm = true) : CallR X (.type "list") (rListO C sp spl) := by
  intro pins s σ H xs us Q I rv h
  obtain ⟨a, dx, fs, d, od, kvs, rfl, ha, hd, hi, hl, hz, hQ⟩ := h
  obtain ⟨u, rfl, ru⟩ := rv.one
  cases ru
  have fr : H s.heap.objs.size = none := I.hok.fresh (Nat.le_refl _)
  have fpS : FpOk X pins H s.heap.objs.size := I.fpOk (Nat.le_refl _) fr
  refine callType_codes (Q₁ := fun obj s₁ => obj = .ref s.heap.objs.size ∧ s₁ = { s with heap := s.heap.push { cls := .type "list", data := .seq #[] } }) PySem.F.called_list (PySem.F.typeCall_list_1 _) PySem.F.entry_list_init
    (code_list_new _ ⟨rfl, rfl⟩) fun obj s₁ h₁ => ?_
  obtain ⟨rfl, rfl⟩ := h₁
  have hS : (s.heap.push { cls := .type "list", data := .seq #[] }).get? s.heap.objs.size = some { cls := .type "list", data := .seq #[] } := Heap.get?_push_size _ rfl
  refine ⟨⟨_, hS, rfl⟩, PySem.F.args_list_init_2 _ _, ?_⟩
  show wpAny _ _ (do let old ← Builtin.List.listItems (.ref s.heap.objs.size); Builtin.List.listUpdate (.ref s.heap.objs.size) (fun _ => #[]); letGo old.toList.reverse; Builtin.List.listExtendWith (.ref s.heap.objs.size) (.ref a) .none) _ _ _
  refine wpAny_bind ?_
  unfold Builtin.List.listItems
  refine wpAny_bind (wpAny_seqItems hS rfl (wpAny_pure ?_))
  show wpAny _ _ (updateSeq s.heap.objs.size (fun _ => #[]) >>= fun _ => letGo (#[] : Array Value).toList.reverse >>= fun _ => Builtin.List.listExtendWith (.ref s.heap.objs.size) (.ref a) .none) _ _ _
  refine wpAny_bind (wpAny_updateSeq hS rfl ?_)
  have I1 : Inv X pins σ H { s with heap := s.heap.push { cls := .type "list", data := .seq #[] } } := I.kept (t' := s.toks) fun b o q => Heap.get?_push_of_some _ q
  have new : ((s.heap.push { cls := .type "list", data := .seq #[] }).update s.heap.objs.size (Obj.mapSeq fun _ => #[])).get? s.heap.objs.size = some { cls := .type "list", data := .seq #[] 0 } := Heap.get?_update_self _ hS rfl
  have I2 : Inv X pins σ H { s with heap := (s.heap.push { cls := .type "list", data := .seq #[] }).update s.heap.objs.size (Obj.mapSeq fun _ => #[]) } := Inv.turnedL (ch := [s.heap.objs.size]) (t' := s.toks) I (fun b o hb e => (Heap.get?_update_other _ _ (fun w => hb (by simp [w]))).trans (Heap.get?_push_of_some _ e)) fun b hb => by rw [List.mem_singleton.mp hb]; exact fpS
  have I3 := pinN (o := { cls := .type "list", data := .seq #[] 0 }) I2 new fpS.1 fpS.2.1 fpS.2.2.1 (fun v z => by cases z)
  refine wpAny_bind (wpAny_letGo ?_)
  refine own_extR (A1 := X.A.in1) (S := s.heap.objs.size) (ret := .none) (R := wants (fun r s₂ => r = .none ∧ EP X pins σ Q (.ref s.heap.objs.size) s₂) X.xe) c FI bI FL bL (Sub.in1 (⟨hr, rfl⟩ : Sub X (k + 3) X.A)) (I.ok.hd hc) fpS I3 ha hd hi hl fun bs s' c' I' ik e => ?_
  have lb : bs.length = kvs.length := (Paired.length ik).symm
  refine ⟨rfl, .ref s.heap.objs.size, _, inv_track I' fpS (ob := .lst (bs.map V.ref)) ⟨by rw [List.length_map]; omega, bs.map Value.ref, c', vals_refs bs, e⟩, rfl, hQ bs _ fr ik⟩
end
end Yd
namespace Yd
open PySem L2
/-! ### a make within a try -/
section
variable {X : Cx} {CX : CXT} {k : Nat} {f C : Addr} {fd : FuncData} {ps : List Str} {sp : Sp} {E : L2.St → XK} {x : Str} {e : Expr} {es : List Expr} {t : TA} {p pos : Pos}
def tMakeS (C : Addr) (sp : Sp) (E : L2.St → XK) (t : TA) : TE := fun σ H Q => t σ H fun vs H1 => ∀ x dx, H1 x = none → H1 dx = none → dx ≠ x → sp (.ref x :: vs) (upd (upd H1 dx (.own x)) x (.ins C dx [])) (fun v H2 => v = .non ∧ Q (.ref x) H2) (E σ)
theorem run_makeS {pins : List (Addr × Obj)} {σ : L2.St} {H : Hp} {s : Shared} {Q : VK} {us : List Value} {vs : List V} (M : Mk X.K C f) (F : FnOk X.prog X.w X.K X.mg X.base CX k f fd ps sp) (hr : Room (k + 1) X.A) (hb : Binds X.K fd ps [])
    (hx : PassesAt CX X σ (E σ)) (I : Inv X pins σ H s) (r : Vals vs us) (h : ∀ x dx, H x = none → H dx = none → dx ≠ x → sp (.ref x :: vs) (upd (upd H dx (.own x)) x (.ins C dx [])) (fun v H2 => v = .non ∧ Q (.ref x) H2) (E σ)) :
    wpAny (model X.prog X.w) X.A (call (.ref C) us) (EP X pins σ Q) X.xe s := by
  have hq := h (s.heap.objs.size + 1) s.heap.objs.size (I.hok.fresh (Nat.le_succ _)) (I.hok.fresh (Nat.le_refl _)) (Nat.ne_of_lt (Nat.lt_succ_self _))
  have I2 := Inv.made (C := C) I
  have r2 : Vals (V.ref (s.heap.objs.size + 1) :: vs) (Value.ref (s.heap.objs.size + 1) :: us) := .cons rfl r
  have hl : (Value.ref (s.heap.objs.size + 1) :: us ++ []).length = ps.length := by
    have e := r2.length
    rw [F.len _ _ _ _ hq] at e
    rw [List.append_nil]
    exact e.symm
  have b := hb _ (Value.ref (s.heap.objs.size + 1) :: us) I2.kIn hl
  rw [List.append_nil] at b
  refine wpAny_call (make_map (f := f) I.kIn M.makes M.init (beq_iff_eq.mp M.fn) (codeAny_mono (F.run _ X.stack _ _ ⟨Value.ref (s.heap.objs.size + 1) :: us, []⟩ (Value.ref (s.heap.objs.size + 1) :: us) _ _ (E σ) (hr.make C us [])
    (I2.env0.make C us []) b r2 hq) fun r s' hq' => ?_))
  cases r with
  | error e => exact hx pins _ _ e s' I2 hq'
  | ok fl =>
    cases fl with
    | ret u =>
      obtain ⟨v, H', I3, rv, ev, q3⟩ := I2.after hq'
      subst ev
      exact ⟨rv, ⟨V.ref (s.heap.objs.size + 1), H', I3, rfl, q3⟩⟩
    | next => exact False.elim hq'
    | brk => exact False.elim hq'
    | cont => exact False.elim hq'
theorem pe_makeS (M : Mk X.K C f) (F : FnOk X.prog X.w X.K X.mg X.base CX k f fd ps sp) (hr : Room (k + 1) X.A) (hg : Gl X x) (hm : X.mg x = some (.ref C)) (hb : Binds X.K fd ps []) (hx : ∀ σ, PassesAt CX X σ (E σ))
    (ha : PA X (e :: es) t) (hdb : (x == ("__debug__" : Str)) = false := by decide) (he : starEach (e :: es) X.env = (false, eval e X.env) :: starEach es X.env := by rfl) (hpl : (backTo pos (starEach es X.env)).any (·.1) = false := by rfl) :
    PE X (.Call (.Name x p) (e :: es) [] pos) (tMakeS C sp E t) := by
  refine ⟨fun pins s σ H Q I h => ?_⟩
  refine wpAny_Call_Name_kw (ld_glob I hg hm ?_ hdb)
  refine PySem.W.callWith_K (h₀ := X.base) I.ok.mod.kin M.kp (thn (ha.run pos pins s σ H _ I h) fun us s1 ⟨vs, H1, I1, r, q⟩ => ⟨I1.kIn, ?_⟩) he hpl
  exact run_makeS M F hr hb (hx σ) I1 r q
end
/-- an error class as the clauses read it -/
structure CatchC (K : PySem.W.Frag) (C : Addr) : Prop where
  xf : XfC K C
  self : PySem.W.exmOne K (.ref C) (.ref C) = some true
end Yd
namespace Yd
open PySem L2
/-! ### each name once, in the order of the first occurrences -/
def addOnce (acc : List Str) (s : Str) : List Str := if s ∈ acc then acc else acc ++ [s]
def onceS (ss : List Str) : List Str := ss.foldl addOnce []
theorem once_more {ss : List Str} {i : Nat} {s : Str} (h : ss[i]? = some s) : onceS (ss.take (i + 1)) = addOnce (onceS (ss.take i)) s := by
  unfold onceS
  rw [take_more h, List.foldl_append]
  rfl
theorem add_nd {acc : List Str} {s : Str} (h : acc.Nodup) : (addOnce acc s).Nodup := by
  unfold addOnce
  by_cases m : s ∈ acc
  · rw [if_pos m]; exact h
  · rw [if_neg m]; exact nd_snoc h m
theorem once_nd (ss : List Str) : (onceS ss).Nodup := by
  unfold onceS
  suffices q : ∀ (l acc : List Str), acc.Nodup → (l.foldl addOnce acc).Nodup from q ss [] List.nodup_nil
  intro l
  induction l with
  | nil => intro acc h; exact h
  | cons s l ih => intro acc h; exact ih _ (add_nd h)
theorem once_len (ss : List Str) : (onceS ss).length ≤ ss.length := by
  unfold onceS
  suffices q : ∀ (l acc : List Str), (l.foldl addOnce acc).length ≤ acc.length + l.length by
    have := q ss []
    rw [List.length_nil, Nat.zero_add] at this
    exact this
  intro l
  induction l with
  | nil => intro acc; exact Nat.le_refl _
  | cons s l ih =>
    intro acc
    have h1 := ih (addOnce acc s)
    have h2 : (addOnce acc s).length ≤ acc.length + 1 := by
      unfold addOnce
      split
      · omega
      · rw [List.length_append]; exact Nat.le_refl _
    rw [List.foldl_cons, List.length_cons]
    omega
/-- a dict whose keys are these texts, each with True -/
def trueD (ss : List Str) : List (Key × V) := ss.map fun s => (Sum.inr s, V.bl true)
theorem trueD_val (s : Str) : ∀ ss : List Str, valV (trueD ss) (Sum.inr s : Key) = if s ∈ ss then some (.bl true) else none
  | [] => by simp [trueD, valV_nil]
  | t :: ss => by
    have e : trueD (t :: ss) = (Sum.inr t, V.bl true) :: trueD ss := rfl
    rw [e]
    by_cases h : t = s
    · subst h
      rw [valV_pos rfl, if_pos (List.mem_cons_self ..)]
    · rw [valV_neg (fun z => h (by injection z)), trueD_val s ss]
      by_cases m : s ∈ ss
      · rw [if_pos m, if_pos (List.mem_cons_of_mem _ m)]
      · rw [if_neg m, if_neg fun q => (List.mem_cons.mp q).elim (fun z => h z.symm) m]
theorem trueD_put (acc : List Str) (s : Str) : putK (trueD acc) (Sum.inr s : Key) (.bl true) = trueD (addOnce acc s) := by
  unfold addOnce
  by_cases m : s ∈ acc
  · rw [if_pos m]
    unfold putK
    have a : ((trueD acc).any fun kv => decide (kv.1 = (Sum.inr s : Key))) = true := by
      rw [valV_any, trueD_val, if_pos m]
      rfl
    rw [if_pos a]
    have e : ∀ kv ∈ trueD acc, (if kv.1 = (Sum.inr s : Key) then (kv.1, V.bl true) else kv) = kv := fun kv hk => by
      obtain ⟨t, _, rfl⟩ := List.mem_map.mp hk
      split <;> rfl
    rw [List.map_congr_left e, List.map_id']
  · rw [if_neg m, putK_new _ (by rw [trueD_val, if_neg m])]
    unfold trueD
    rw [List.map_append]
    rfl
theorem trueD_keys (ss : List Str) : ((trueD ss).map fun kv => kV kv.1) = ss.map V.str := by
  unfold trueD
  rw [List.map_map]
  rfl
def spDistinct (K : PySem.W.Frag) : Sp := fun vs H Q _ => ∃ (a : Addr) (ss : List Str), vs = [.ref a] ∧ TxS K H a ss ∧ ss.length ≤ 1000 ∧ ∀ q H', Same H H' → H q = none → H' q = some (.tup ((onceS ss).map V.str)) → Q (.ref q) H'
section
variable {P : Program} {w : World} {K : PySem.W.Frag} {mg : Str → Option Value} {base : Heap}
theorem get_strs2 {ns : List Str} {i : Nat} {x : V} (h : (ns.map V.str)[i]? = some x) : ∃ z, ns[i]? = some z ∧ x = .str z := by
  rw [List.getElem?_map] at h
  cases e : ns[i]? with
  | none => rw [e] at h; cases h
  | some z => rw [e] at h; exact ⟨z, rfl, (Option.some.inj h).symm⟩
def nDistinct : List Str := ["names", "name"]
theorem scDistinct : FnScope nDistinct ["names"] (defScope sDistinct) := ⟨rfl, rfl, rfl, by decide +kernel, rfl, by decide +kernel, by decide +kernel⟩
theorem ok_distinct {f : Addr} {fd : FuncData} (F : Fun K "distinct" "distinct" sDistinct f fd) (hT : mg "tuple" = none) : FnOk P w K mg base CX0 1 f fd ["names"] (spDistinct K) := by
  refine F.ok scDistinct (fun vs H Q E h => ?_) (fun cdv A outer s H vs Q E hr h => ?_)
  · obtain ⟨a, ss, rfl, _⟩ := h
    rfl
  · obtain ⟨a, ss, rfl, ha, hl, k⟩ := h
    have start : ∀ D, H D = none → Same H (upd H D (.dK [])) ∧ upd H D (.dK []) D = some (.dK (trueD (onceS (ss.take 0)))) := fun D hD => ⟨fun b o e => by rw [upd_ne (ne_of_none e hD)]; exact e, upd_same⟩
    have turn : ∀ (D : Addr) (i : Nat) (x : V) (H' : Hp), H D = none → (ss.map V.str)[i]? = some x → Same H H' → H' D = some (.dK (trueD (onceS (ss.take i)))) →
        ∃ kvs k, x = kV k ∧ H' D = some (.dK kvs) ∧ kvs.length < sizeLine ∧ Same H (upd H' D (.dK (putK kvs k (.bl true)))) ∧ upd H' D (.dK (putK kvs k (.bl true))) D = some (.dK (trueD (onceS (ss.take (i + 1))))) := fun D i x H' hD hi s e => by
      obtain ⟨z, hz, rfl⟩ := get_strs2 hi
      refine ⟨_, Sum.inr z, rfl, e, ?_, fun b o q => by rw [upd_ne (ne_of_none q hD)]; exact s b o q, ?_⟩
      · have q := once_len (ss.take i)
        rw [List.length_take] at q
        refine small1000 ?_
        unfold trueD
        rw [List.length_map]
        omega
      · rw [upd_same, trueD_put, once_more hz]
    have fin : ∀ (D : Addr) (H' : Hp), H D = none → Same H H' → H' D = some (.dK (trueD (onceS (ss.take (ss.map V.str).length)))) → ∃ a kvs, [V.ref D] = [V.ref a] ∧ Rd H' a (.dK kvs) ∧ ∀ p, H' p = none → Q (.ref p) (upd H' p (.tup (kvs.map fun kv => kV kv.1))) := fun D H' hD s e => by
      rw [List.length_map, List.take_length] at e
      refine ⟨D, _, rfl, .of e, fun p hp => ?_⟩
      rw [trueD_keys]
      exact k p _ (s.trans fun b o q => by rw [upd_ne (ne_of_none q hp)]; exact q) (s.free hp) upd_same
    rcases ha with ha | ha
    · refine ⟨_, pss_one (ps_ret (pe_callTy (call_tupleD rfl) (by rfl) hT (by decide +kernel) (pa_cons (pe_dc (own := [("name", 1)]) (g := gName 1) (tt := tYes) rfl scDistinct.nd (pi_list (pv 0)) (blkOk_by (N := nDistinct) (sc := defScope sDistinct) (by decide +kernel))
        (fun _ _ _ _ _ => pg_name (i := 1) scDistinct.nd rfl (Or.inl rfl)) (fun _ _ _ _ _ => pts_nil) (fun _ _ _ _ _ => pv 1) (fun _ _ _ _ _ => pe_bl)) pa_nil))), ?_⟩
      refine ⟨_, rfl, a, rfl, ⟨_, ha⟩, fun D hD => dc_list (K := K) (a := a) (xs := ss.map V.str) (fun i H' => Same H H' ∧ H' D = some (.dK (trueD (onceS (ss.take i))))) (start D hD) (fun i H' _ h => h.1.seq ha) (fun i x H' hi h => ?_) fun H' h => fin D H' hD h.1 h.2⟩
      exact ⟨rfl, _, rfl, turn D i x H' hD hi h.1 h.2⟩
    · refine ⟨_, pss_one (ps_ret (pe_callTy (call_tupleD rfl) (by rfl) hT (by decide +kernel) (pa_cons (pe_dc (own := [("name", 1)]) (g := gName 1) (tt := tYes) rfl scDistinct.nd (pi_tup (pv 0)) (blkOk_by (N := nDistinct) (sc := defScope sDistinct) (by decide +kernel))
        (fun _ _ _ _ _ => pg_name (i := 1) scDistinct.nd rfl (Or.inl rfl)) (fun _ _ _ _ _ => pts_nil) (fun _ _ _ _ _ => pv 1) (fun _ _ _ _ _ => pe_bl)) pa_nil))), ?_⟩
      refine ⟨_, rfl, a, rfl, ⟨_, ha⟩, fun D hD => dc_tup (K := K) (a := a) (xs := ss.map V.str) (fun i H' => Same H H' ∧ H' D = some (.dK (trueD (onceS (ss.take i))))) (start D hD) (fun i H' _ h => Yd.Same.seqT h.1 ha) (fun i x H' hi h => ?_) fun H' h => fin D H' hD h.1 h.2⟩
      exact ⟨rfl, _, rfl, turn D i x H' hD hi h.1 h.2⟩
end
end Yd
namespace Yd
open PySem L2
/-! ### the doors of a kind -/
def DoorAt (H : Hp) (a C : Addr) (ss : List Str) (ng : List (List Str × List Str)) : Prop := ∃ dx fs dd ts, H a = some (.ins C dx fs) ∧ fs.lookup ("_doors" : Str) = some (.ref dd) ∧ fs.lookup ("needs" : Str) = none ∧ fs.lookup ("gives" : Str) = none ∧ DoorsAt H dd ss ts ng
/-- what a class with doors must have -/
structure DoorC (K : PySem.W.Frag) (C fN fG fI fP fT : Addr) : Prop where
  cls : Cls K C
  nD : NoAttr K C "_doors"
  mN : Meth K C "needs" fN
  mG : Meth K C "gives" fG
  gi : ItemC K C "__getitem__" fI
  pi : ItemC K C "__setitem__" fP
  it : PySem.W.findIn K (.ref C) "__iter__" = some (some (.ref fT))
  itf : PySem.W.isFn K (.ref fT) = true
theorem DoorsAt.keepT {H H' : Hp} {dd : Addr} {ss : List Str} {ts : List Addr} {ng : List (List Str × List Str)} (D : DoorsAt H dd ss ts ng) (d : H' dd = some (.dK (dP ss ts))) (k : ∀ b xs, H b = some (.tup xs) → H' b = some (.tup xs)) : DoorsAt H' dd ss ts ng :=
  ⟨d, D.len, D.nd, D.ln, fun i t p h1 h2 => let ⟨n, g, q1, q2, q3⟩ := D.at_ i t p h1 h2; ⟨n, g, k _ _ q1, k _ _ q2, k _ _ q3⟩⟩
theorem DoorAt.keepL {H H' : Hp} {a C : Addr} {ss : List Str} {ng : List (List Str × List Str)} (h : DoorAt H a C ss ng) (s : ∀ b o, H b = some o → (∀ xs, o ≠ .lst xs) → H' b = some o) : DoorAt H' a C ss ng := by
  obtain ⟨dx, fs, dd, ts, ha, l1, l2, l3, D⟩ := h
  exact ⟨dx, fs, dd, ts, s _ _ ha (fun xs e => by cases e), l1, l2, l3, D.keepT (s _ _ D.d (fun xs e => by cases e)) fun b xs e => s _ _ e (fun xs e => by cases e)⟩
theorem DoorAt.keep {H H' : Hp} {a C : Addr} {ss : List Str} {ng : List (List Str × List Str)} (h : DoorAt H a C ss ng) (s : Same H H') : DoorAt H' a C ss ng := h.keepL fun b o e _ => s b o e
theorem dP_put : ∀ {ss : List Str} {ts : List Addr} {i : Nat} {s : Str} {t : Addr}, ss.Nodup → ss.length = ts.length → ss[i]? = some s → putK (dP ss ts) (Sum.inr s : Key) (.ref t) = dP ss (ts.set i t)
  | [], _, _, _, _, _, _, h => by simp at h
  | _ :: _, [], _, _, _, _, h, _ => by simp at h
  | a :: r, b :: ts, i, s, t, nd, hl, h => by
    have n2 := List.nodup_cons.mp nd
    have any : ((dP (a :: r) (b :: ts)).any fun kv => decide (kv.1 = (Sum.inr s : Key))) = true := by
      rw [valV_any, dP_is nd hl]
      exact decide_eq_true (List.mem_of_getElem? h)
    have step : ∀ {i : Nat} {s : Str}, r[i]? = some s → ((dP r ts).map fun kv => if kv.1 = (Sum.inr s : Key) then (kv.1, V.ref t) else kv) = dP r (ts.set i t) := fun {i s} hi => by
      have q := dP_put (t := t) n2.2 (by simpa using hl) hi
      unfold putK at q
      rw [if_pos (by rw [valV_any, dP_is n2.2 (by simpa using hl)]; exact decide_eq_true (List.mem_of_getElem? hi))] at q
      exact q
    unfold putK
    rw [if_pos any, dP_cons, List.map_cons]
    match i, h with
    | 0, h =>
      have e : a = s := Option.some.inj h
      subst e
      rw [if_pos rfl, List.set_cons_zero, dP_cons]
      congr 1
      have same : ∀ kv ∈ dP r ts, (if kv.1 = (Sum.inr a : Key) then (kv.1, V.ref t) else kv) = kv := fun kv hk => by
        obtain ⟨j, hj⟩ := List.mem_iff_getElem?.mp hk
        obtain ⟨z, e, hz, _, e1, e2⟩ := dP_key (k := kv.1) (v := kv.2) (by simpa using hl) hj
        rw [if_neg]
        rw [e1]
        intro q
        injection q with q
        rw [q] at hz
        exact n2.1 (List.mem_of_getElem? hz)
      rw [List.map_congr_left same, List.map_id']
    | i + 1, h =>
      have hi : r[i]? = some s := by simpa using h
      have na : ¬ (Sum.inr a : Key) = Sum.inr s := fun q => by
        injection q with q
        rw [q] at n2
        exact n2.1 (List.mem_of_getElem? hi)
      rw [if_neg na, List.set_cons_succ, dP_cons, step hi]
/-- the doors, perhaps locked -/
structure DoorsRd (H : Hp) (dd : Addr) (ss : List Str) (ts : List Addr) (ng : List (List Str × List Str)) : Prop where
  d : Rd H dd (.dK (dP ss ts))
  len : ss.length = ts.length
  nd : ss.Nodup
  ln : ng.length = ss.length
  at_ : ∀ (i : Nat) (t : Addr) (p : List Str × List Str), ts[i]? = some t → ng[i]? = some p → ∃ n g, H t = some (.tup [.ref n, .ref g]) ∧ H n = some (.tup (p.1.map V.str)) ∧ H g = some (.tup (p.2.map V.str))
def DoorRd (H : Hp) (a C : Addr) (ss : List Str) (ng : List (List Str × List Str)) : Prop := ∃ dx fs dd ts, H a = some (.ins C dx fs) ∧ fs.lookup ("_doors" : Str) = some (.ref dd) ∧ DoorsRd H dd ss ts ng
theorem DoorAt.rd {H : Hp} {a C : Addr} {ss : List Str} {ng : List (List Str × List Str)} (h : DoorAt H a C ss ng) : DoorRd H a C ss ng := let ⟨dx, fs, dd, ts, h1, h2, _, _, D⟩ := h; ⟨dx, fs, dd, ts, h1, h2, ⟨.of D.d, D.len, D.nd, D.ln, D.at_⟩⟩
def spDGet (K : PySem.W.Frag) (CU : Addr) : Sp := fun vs H Q E => ∃ (a C : Addr) (ss : List Str) (ng : List (List Str × List Str)) (z : Str), vs = [.ref a, .str z] ∧ Cls K C ∧ NoAttr K C "_doors" ∧ DoorRd H a C ss ng ∧ z.length ≤ 100 ∧
  (z ∉ ss → Raised CU [.str z] fsUnknown H E) ∧ (∀ (i : Nat) (p : List Str × List Str) (t n g : Addr), ss[i]? = some z → ng[i]? = some p → H t = some (.tup [.ref n, .ref g]) → H n = some (.tup (p.1.map V.str)) → H g = some (.tup (p.2.map V.str)) → Q (.ref t) H)
def spDPut (K : PySem.W.Frag) (CU : Addr) : Sp := fun vs H Q E => ∃ (a C dx : Addr) (fs : List (Str × V)) (dd : Addr) (ts : List Addr) (ss : List Str) (ng : List (List Str × List Str)) (z : Str) (w n g : Addr) (ns gs : List Str), vs = [.ref a, .str z, .ref w] ∧ Cls K C ∧ NoAttr K C "_doors" ∧
  H a = some (.ins C dx fs) ∧ fs.lookup ("_doors" : Str) = some (.ref dd) ∧ DoorsAt H dd ss ts ng ∧ z.length ≤ 100 ∧ H w = some (.tup [.ref n, .ref g]) ∧ TxS K H n ns ∧ TxS K H g gs ∧ ns.length ≤ 1000 ∧ gs.length ≤ 1000 ∧ ss.length ≤ 1000 ∧
  (z ∉ ss → Raised CU [.str z] fsUnknown H E) ∧ (∀ i : Nat, ss[i]? = some z → ∀ (ts' : List Addr) (H' : Hp), Gro dd H H' → DoorsAt H' dd ss ts' (ng.set i (onceS ns, onceS gs)) → Q .non H')
def spDIter (K : PySem.W.Frag) : Nat → Sp := fun n vs H Q _ => ∃ (a C dx : Addr) (fs : List (Str × V)) (d : Addr) (od : Obj) (m : Nat), vs = [.ref a] ∧ H a = some (.ins C dx fs) ∧ Cls K C ∧ NoAttr K C "_doors" ∧ fs.lookup ("_doors" : Str) = some (.ref d) ∧ Keyed H d od m ∧
  ∀ it, H it = none → n ≤ it → Q (.ref it) (upd H it (KIo d it od m))
section
variable {P : Program} {w : World} {K : PySem.W.Frag} {mg : Str → Option Value} {base : Heap}
theorem scDGet : FnScope ["self", "at"] ["self", "at"] (defScope sDoorsGet) := ⟨rfl, rfl, rfl, by decide +kernel, rfl, by decide +kernel, by decide +kernel⟩
theorem ok_dGet {f CU : Addr} {fd : FuncData} (F : Fun K "__getitem__" "Doors.__getitem__" sDoorsGet f fd) (OU : ErrOk P w K mg base "Unknown" CU 1 okUnknown fsUnknown) : FnOk P w K mg base (L2.CX P w) 3 f fd ["self", "at"] (spDGet K CU) := by
  refine F.okX scDGet (fun vs H Q E h => ?_) (fun cdv A outer s H vs Q E hr h => ?_)
  · obtain ⟨a, C, ss, ng, z, rfl, _⟩ := h
    rfl
  · obtain ⟨a, C, ss, ng, z, rfl, cls, nD, ⟨dx, fs, dd, ts, ha, l1, D⟩, hz, k1, k2⟩ := h
    have hu := hu_of hr
    refine ⟨_, pss_cons (ps_if (pt_cmp (pc_dnotin hu (pv 1) (pe_fld (pv 0) rfl))) (pss_one (ps_raise rfl (takes_of rfl rfl rfl rfl) (pmk_err OU hr rfl (pa_cons (pv 1) pa_nil)))) pss_nil)
      (pss_one (ps_ret (pe_dget hu (pe_fld (pv 0) rfl) (pv 1) (fun _ _ => rfl)))), ?_⟩
    refine ⟨_, rfl, _, rfl, a, C, dx, fs, _, rfl, ha, cls, nD, l1, dd, _, rfl, .inl ⟨_, Sum.inr z, D.d, rfl, rfl⟩, _, rfl, ?_⟩
    rw [dP_is D.nd D.len]
    by_cases hm : z ∈ ss
    · rw [decide_eq_true hm]
      obtain ⟨i, hi⟩ := List.mem_iff_getElem?.mp hm
      have hil : i < ss.length := (List.getElem?_eq_some_iff.mp hi).1
      obtain ⟨t, ht⟩ : ∃ t, ts[i]? = some t := ⟨_, List.getElem?_eq_getElem (by rw [← D.len]; exact hil)⟩
      obtain ⟨p, hp⟩ : ∃ p, ng[i]? = some p := ⟨_, List.getElem?_eq_getElem (by rw [D.ln]; exact hil)⟩
      obtain ⟨n, g, q1, q2, q3⟩ := D.at_ i t p ht hp
      have dg : DGet H dd (.str z) (some (.ref t)) := .inl ⟨_, Sum.inr z, D.d, rfl, (dP_some D.nd hi ht).symm⟩
      exact no rfl ⟨_, rfl, a, C, dx, fs, _, rfl, ha, cls, nD, l1, _, rfl, dd, _, rfl, dg, k2 i p t n g hi hp q1 q2 q3⟩
    · rw [decide_eq_false hm]
      exact yes rfl ⟨_, rfl, err_read rfl (by decide) ⟨z, rfl, hz⟩ (k1 hm)⟩
def nDPut : List Str := ["self", "at", "worth", "needs", "gives"]
theorem scDPut : FnScope nDPut ["self", "at", "worth"] (defScope sDoorsPut) := ⟨rfl, rfl, rfl, by decide +kernel, rfl, by decide +kernel, by decide +kernel⟩
theorem ok_dPut {f fX CU : Addr} {fd fdX : FuncData} (F : Fun K "__setitem__" "Doors.__setitem__" sDoorsPut f fd) (OU : ErrOk P w K mg base "Unknown" CU 1 okUnknown fsUnknown)
    (GX : FnOk P w K mg base CX0 1 fX fdX ["names"] (spDistinct K)) (gX : mg "distinct" = some (.ref fX)) (kX : PySem.W.keepIn K (.ref fX) = true) (bX : Binds K fdX ["names"] []) : FnOk P w K mg base (L2.CX P w) 3 f fd ["self", "at", "worth"] (spDPut K CU) := by
  refine F.okX scDPut (fun vs H Q E h => ?_) (fun cdv A outer s H vs Q E hr h => ?_)
  · obtain ⟨a, C, dx, fs, dd, ts, ss, ng, z, w', n, g, ns, gs, rfl, _⟩ := h
    rfl
  · obtain ⟨a, C, dx, fs, dd, ts, ss, ng, z, w', n, g, ns, gs, rfl, cls, nD, ha, l1, D, hz, hw, hn, hg, nl, gl, sl, k1, k2⟩ := h
    have hu := hu_of hr
    have r1 : Room 1 _ := hr.mono (by decide)
    refine ⟨_, pss_cons (ps_if (pt_cmp (pc_dnotin hu (pv 1) (pe_fld (pv 0) rfl))) (pss_one (ps_raise rfl (takes_of rfl rfl rfl rfl) (pmk_err OU hr rfl (pa_cons (pv 1) pa_nil)))) pss_nil)
      (pss_cons (ps_asg (pv 2) (pg_tup (by rfl) (pgs_cons (pg_name (i := 3) scDPut.nd rfl (Or.inl rfl)) (pgs_cons (pg_name (i := 4) scDPut.nd rfl (Or.inl rfl)) pgs_nil))))
      (pss_one (ps_dput hu (pe_fld (pv 0) rfl) (pv 1) (pe_tup (pa_cons (pe_call GX r1 rfl gX kX bX .nil pass0 (pa_cons (pv 3) pa_nil)) (pa_cons (pe_call GX r1 rfl gX kX bX .nil pass0 (pa_cons (pv 4) pa_nil)) pa_nil))) rfl))), ?_⟩
    refine ⟨_, rfl, _, rfl, a, C, dx, fs, _, rfl, ha, cls, nD, l1, dd, _, rfl, DGet.k (k := Sum.inr z) D.d, _, rfl, ?_⟩
    rw [dP_is D.nd D.len]
    by_cases hm : z ∈ ss
    · rw [decide_eq_true hm]
      obtain ⟨i, hi⟩ := List.mem_iff_getElem?.mp hm
      refine no rfl ⟨_, rfl, w', _, rfl, SqT.of hw, rfl, _, _, rfl, _, _, rfl, rfl, ?_⟩
      refine ⟨_, rfl, n, ns, rfl, hn, nl, fun q1 H1 s1 f1 e1 => ⟨_, rfl, g, gs, rfl, hg.keep s1, gl, fun q2 H2 s2 f2 e2 => ⟨(by show 2 ≤ sizeLine; decide), fun t ht => ?_⟩⟩⟩
      have s3 : Same H2 (upd H2 t (.tup [.ref q1, .ref q2])) := fun b o q => by rw [upd_ne (ne_of_none q ht)]; exact q
      have e3 : upd H2 t (.tup [.ref q1, .ref q2]) t = some (.tup [.ref q1, .ref q2]) := upd_same
      generalize upd H2 t (.tup [.ref q1, .ref q2]) = H3 at s3 e3
      have s4 : Same H H3 := (s1.trans s2).trans s3
      refine ⟨_, rfl, a, C, dx, fs, _, rfl, s4 _ _ ha, cls, nD, l1, _, rfl, dd, _, rfl, DPut.k (k := Sum.inr z) (s4 _ _ D.d) (small1000 (by rw [dP_len D.len]; exact sl)), ?_⟩
      rw [dP_put D.nd D.len hi]
      have off : ∀ b o, H b = some o → (∀ kvs, o ≠ .dK kvs) → upd H3 dd (.dK (dP ss (ts.set i t))) b = some o := fun b o q nk => by
        rw [upd_ne]
        · exact s4 _ _ q
        · rintro rfl
          rw [D.d] at q
          exact nk _ (Option.some.inj q).symm
      have off3 : ∀ b o, H3 b = some o → (∀ kvs, o ≠ .dK kvs) → upd H3 dd (.dK (dP ss (ts.set i t))) b = some o := fun b o q nk => by
        rw [upd_ne]
        · exact q
        · rintro rfl
          rw [s4 _ _ D.d] at q
          exact nk _ (Option.some.inj q).symm
      refine k2 i hi _ _ (fun b o q n => by rw [upd_ne n]; exact s4 _ _ q) ⟨upd_same, by rw [List.length_set]; exact D.len, D.nd, by rw [List.length_set]; exact D.ln, fun j c p h1 h2 => ?_⟩
      have tk : ∀ b xs, H3 b = some (.tup xs) → upd H3 dd (.dK (dP ss (ts.set i t))) b = some (.tup xs) := fun b xs q => off3 _ _ q (fun kvs e => by cases e)
      by_cases hj : i = j
      · subst hj
        rw [List.getElem?_set_self' ] at h1 h2
        obtain ⟨t0, h0, rfl⟩ := Option.map_eq_some_iff.mp h1
        obtain ⟨p0, g0, rfl⟩ := Option.map_eq_some_iff.mp h2
        exact ⟨q1, q2, tk _ _ e3, tk _ _ (s3 _ _ (s2 _ _ e1)), tk _ _ (s3 _ _ e2)⟩
      · rw [List.getElem?_set_ne hj] at h1 h2
        obtain ⟨n', g', a1, a2, a3⟩ := D.at_ j c p h1 h2
        exact ⟨n', g', tk _ _ (s4 _ _ a1), tk _ _ (s4 _ _ a2), tk _ _ (s4 _ _ a3)⟩
    · rw [decide_eq_false hm]
      exact yes rfl ⟨_, rfl, err_read rfl (by decide) ⟨z, rfl, hz⟩ (k1 hm)⟩
theorem scDIter : FnScope ["self"] ["self"] (defScope sDoorsIter) := ⟨rfl, rfl, rfl, by decide +kernel, rfl, by decide +kernel, by decide +kernel⟩
theorem ok_dIter {f : Addr} {fd : FuncData} (F : Fun K "__iter__" "Doors.__iter__" sDoorsIter f fd) (hI : mg "iter" = none) : FnN P w K mg base 1 f fd ["self"] (spDIter K) := by
  refine fun_N F scDIter (fun n vs H Q E h => ?_) (fun cdv A outer s H vs Q E hr h => ?_)
  · obtain ⟨a, C, dx, fs, d, od, m, rfl, _⟩ := h
    rfl
  · obtain ⟨a, C, dx, fs, d, od, m, rfl, ha, cls, nD, l1, kd, k⟩ := h
    refine ⟨_, pss_one (ps_ret (pe_callB call_iterK (by rfl) hI (by decide +kernel) (pa_cons (pe_fld (pv 0) rfl) pa_nil))), ?_⟩
    exact ⟨_, rfl, a, C, dx, fs, _, rfl, ha, cls, nD, l1, d, od, m, rfl, kd, fun it h1 h2 => k it h1 h2⟩
end
end Yd
namespace Yd
open PySem L2
/-! ### a part in the heap -/
structure PA (H : Hp) (a C dx : Addr) (nm : Str) (ds dd : Addr) (ss : List Str) (es ts : List Addr) (R : Str → Str → Bool) (m : Nat) (ng : List (List Str × List Str)) : Prop where
  at_ : H a = some (.ins C dx (fsPart nm ds dd))
  S : StepsAt H ds ss es R m
  D : DoorsAt H dd ss ts ng
  n1 : dd ≠ ds
  n2 : dd ∉ es
theorem fs_look (nm : Str) (ds dd : Addr) (f : Str) : (fsPart nm ds dd).lookup f = if f = "name" then some (.str nm) else if f = "_doors" then some (.ref dd) else if f = "_steps" then some (.ref ds) else none := by
  unfold fsPart
  rw [lookup_putF, lookup_putF, lookup_putF]
  rfl
theorem fs_steps (nm : Str) (ds dd : Addr) : (fsPart nm ds dd).lookup ("_steps" : Str) = some (.ref ds) := by rw [fs_look, if_neg (by decide +kernel), if_neg (by decide +kernel), if_pos rfl]
theorem fs_doors (nm : Str) (ds dd : Addr) : (fsPart nm ds dd).lookup ("_doors" : Str) = some (.ref dd) := by rw [fs_look, if_neg (by decide +kernel), if_pos rfl]
theorem fs_name (nm : Str) (ds dd : Addr) : (fsPart nm ds dd).lookup ("name" : Str) = some (.str nm) := by rw [fs_look, if_pos rfl]
theorem fs_no (nm : Str) (ds dd : Addr) {f : Str} (h1 : f ≠ "name") (h2 : f ≠ "_doors") (h3 : f ≠ "_steps") : (fsPart nm ds dd).lookup f = none := by rw [fs_look, if_neg h1, if_neg h2, if_neg h3]
section
variable {H H' : Hp} {a C dx : Addr} {nm : Str} {ds dd : Addr} {ss : List Str} {es ts : List Addr} {R : Str → Str → Bool} {m : Nat} {ng : List (List Str × List Str)}
theorem PA.kind (p : PA H a C dx nm ds dd ss es ts R m ng) : KindAt H a C ss R m := ⟨dx, _, ds, es, p.at_, fs_steps _ _ _, fs_no _ _ _ (by decide +kernel) (by decide +kernel) (by decide +kernel), fs_no _ _ _ (by decide +kernel) (by decide +kernel) (by decide +kernel), fs_no _ _ _ (by decide +kernel) (by decide +kernel) (by decide +kernel), p.S⟩
theorem PA.door (p : PA H a C dx nm ds dd ss es ts R m ng) : DoorAt H a C ss ng := ⟨dx, _, dd, ts, p.at_, fs_doors _ _ _, fs_no _ _ _ (by decide +kernel) (by decide +kernel) (by decide +kernel), fs_no _ _ _ (by decide +kernel) (by decide +kernel) (by decide +kernel), p.D⟩
/-- lists and others may change, these stay -/
theorem PA.keepL (p : PA H a C dx nm ds dd ss es ts R m ng) (s : ∀ b o, H b = some o → (∀ xs, o ≠ .lst xs) → H' b = some o) : PA H' a C dx nm ds dd ss es ts R m ng :=
  ⟨s _ _ p.at_ (fun xs e => by cases e), p.S.keep fun b kvs e => s _ _ e (fun xs e => by cases e), p.D.keepT (s _ _ p.D.d (fun xs e => by cases e)) fun b xs e => s _ _ e (fun xs e => by cases e), p.n1, p.n2⟩
theorem PA.keep (p : PA H a C dx nm ds dd ss es ts R m ng) (s : Same H H') : PA H' a C dx nm ds dd ss es ts R m ng := p.keepL fun b o e _ => s b o e
theorem PA.tracked (p : PA H a C dx nm ds dd ss es ts R m ng) : (∃ o, H ds = some o) ∧ (∃ o, H dd = some o) ∧ ∀ e ∈ es, ∃ o, H e = some o := by
  refine ⟨⟨_, p.S.d⟩, ⟨_, p.D.d⟩, fun e he => ?_⟩
  obtain ⟨i, hi⟩ := List.mem_iff_getElem?.mp he
  have hil : i < ss.length := by rw [p.S.len]; exact (List.getElem?_eq_some_iff.mp hi).1
  obtain ⟨kvs, h, _⟩ := p.S.at_ i e _ hi (List.getElem?_eq_getElem hil)
  exact ⟨_, h⟩
/-- a dict of another one changes -/
theorem PA.off {q : Addr} (p : PA H a C dx nm ds dd ss es ts R m ng) (g : Gro q H H') (hq : ∃ kvs, H q = some (.dK kvs)) (m1 : q ≠ ds) (m2 : q ≠ dd) (m3 : q ∉ es) : PA H' a C dx nm ds dd ss es ts R m ng := by
  obtain ⟨kq, hq⟩ := hq
  have tk : ∀ b xs, H b = some (.tup xs) → H' b = some (.tup xs) := fun b xs e => g _ _ e (ne_of e hq (by intro z; cases z))
  refine ⟨g _ _ p.at_ (ne_of p.at_ hq (by intro z; cases z)), ⟨g _ _ p.S.d m1.symm, p.S.len, p.S.nd, p.S.ed, p.S.no, fun i e s h1 h2 => ?_⟩, p.D.keepT (g _ _ p.D.d m2.symm) tk, p.n1, p.n2⟩
  obtain ⟨kvs, h, r⟩ := p.S.at_ i e s h1 h2
  exact ⟨kvs, g _ _ h (by rintro rfl; exact m3 (List.mem_of_getElem? h1)), r⟩
/-- its doors are set anew -/
theorem PA.put {ts' : List Addr} {ng' : List (List Str × List Str)} (p : PA H a C dx nm ds dd ss es ts R m ng) (g : Gro dd H H') (D : DoorsAt H' dd ss ts' ng') : PA H' a C dx nm ds dd ss es ts' R m ng' := by
  refine ⟨g _ _ p.at_ (ne_of p.at_ p.D.d (by intro z; cases z)), ⟨g _ _ p.S.d p.n1.symm, p.S.len, p.S.nd, p.S.ed, p.S.no, fun i e s h1 h2 => ?_⟩, D, p.n1, p.n2⟩
  obtain ⟨kvs, h, r⟩ := p.S.at_ i e s h1 h2
  exact ⟨kvs, g _ _ h (by rintro rfl; exact p.n2 (List.mem_of_getElem? h1)), r⟩
/-- a step more -/
theorem PA.step {e : Addr} {R' : Str → Str → Bool} {m' : Nat} (p : PA H a C dx nm ds dd ss es ts R m ng) (he : e ∈ es) (g : Gro e H H') (S : StepsAt H' ds ss es R' m') : PA H' a C dx nm ds dd ss es ts R' m' ng := by
  obtain ⟨i, hi⟩ := List.mem_iff_getElem?.mp he
  have hil : i < ss.length := by rw [p.S.len]; exact (List.getElem?_eq_some_iff.mp hi).1
  obtain ⟨kvs, h, _⟩ := p.S.at_ i e _ hi (List.getElem?_eq_getElem hil)
  refine ⟨g _ _ p.at_ (ne_of p.at_ h (by intro z; cases z)), S, p.D.keepT (g _ _ p.D.d (by rintro rfl; exact p.n2 he)) fun b xs q => g _ _ q (ne_of q h (by intro z; cases z)), p.n1, p.n2⟩
end
/-- the dicts that belong to the part alone -/
def Own (b ds dd : Addr) (es : List Addr) : Prop := b = dd ∨ b ∈ es
/-- a part that is new has dicts of its own -/
theorem pa_new {H : Hp} {a C dx : Addr} {nm : Str} {ds dd : Addr} {ss : List Str} {es ts : List Addr} (h : H a = some (.ins C dx (fsPart nm ds dd))) (S : StepsAt H ds ss es (fun _ _ => false) 0) (D : DoorsAt H dd ss ts (ss.map fun _ => ([], []))) (h0 : 0 < ss.length) :
    PA H a C dx nm ds dd ss es ts (fun _ _ => false) 0 (ss.map fun _ => ([], [])) := by
  obtain ⟨s, hs⟩ : ∃ s, ss[0]? = some s := ⟨_, List.getElem?_eq_getElem h0⟩
  obtain ⟨e, he⟩ : ∃ e, es[0]? = some e := ⟨_, List.getElem?_eq_getElem (by rw [← S.len]; exact h0)⟩
  obtain ⟨t, ht⟩ : ∃ t, ts[0]? = some t := ⟨_, List.getElem?_eq_getElem (by rw [← D.len]; exact h0)⟩
  refine ⟨h, S, D, fun q => ?_, fun q => ?_⟩
  · have d1 := S.d
    rw [← q, D.d] at d1
    have z := Option.some.inj d1
    injection z with z
    have v1 := dP_some D.nd hs ht
    rw [z, dP_some S.nd hs he] at v1
    have et : e = t := by injection (Option.some.inj v1)
    subst et
    obtain ⟨n, g, q1, _⟩ := D.at_ 0 e ([], []) ht (by rw [List.getElem?_map, hs]; rfl)
    obtain ⟨kvs, q2, _⟩ := S.at_ 0 e s he hs
    rw [q1] at q2
    cases q2
  · obtain ⟨i, hi⟩ := List.mem_iff_getElem?.mp q
    have hil : i < ss.length := by rw [S.len]; exact (List.getElem?_eq_some_iff.mp hi).1
    obtain ⟨kvs, h1, h2, _⟩ := S.at_ i dd _ hi (List.getElem?_eq_getElem hil)
    rw [D.d] at h1
    have z := Option.some.inj h1
    injection z with z
    have l := dP_len D.len
    rw [z] at l
    omega
/-- the class of a part -/
structure PartK (K : PySem.W.Frag) (C fA fS fF fN fG fI fP fT fR fL : Addr) : Prop where
  pc : PartC K C
  k : KindC K C fA fS fF
  d : DoorC K C fN fG fI fP fT
  mR : Meth K C "row" fR
  mL : Meth K C "_follow" fL
def rowText (nm : Str) (ss : List Str) : Str := nm ++ (": " : Str) ++ Txt.join (", " : Str) ss
theorem join_len (sep : Str) : ∀ ss : List Str, (∀ s ∈ ss, s.length ≤ 100) → (Txt.join sep ss).length ≤ ss.length * (100 + sep.length)
  | [], _ => by
    have e : (Txt.join sep ([] : List Str)).length = 0 := rfl
    rw [e]
    exact Nat.zero_le _
  | [s], h => by
    have e : Txt.join sep [s] = s := by
      show Builtin.Str.glued sep [s] = s
      rw [StrLaws.glued_eq_join]
      rfl
    rw [e]
    have := h s (List.mem_cons_self ..)
    simp
    omega
  | s :: t :: r, h => by
    have e : Txt.join sep (s :: t :: r) = s ++ sep ++ Txt.join sep (t :: r) := by
      show Builtin.Str.glued sep (s :: t :: r) = s ++ sep ++ Builtin.Str.glued sep (t :: r)
      rw [StrLaws.glued_eq_join, StrLaws.glued_eq_join]
      rfl
    have i := join_len sep (t :: r) fun x hx => h x (List.mem_cons_of_mem _ hx)
    have := h s (List.mem_cons_self ..)
    rw [e, len_app, len_app, List.length_cons]
    have q : (t :: r).length * (100 + sep.length) + (100 + sep.length) = ((t :: r).length + 1) * (100 + sep.length) := by rw [Nat.add_mul, Nat.one_mul]
    omega
end Yd
namespace Yd
open PySem L2
/-! ### small helpers -/
theorem passF {X : Cx} : Passes (L2.CX X.prog X.w) X (fun _ _ _ => False) := fun _ _ _ _ _ _ _ ⟨_, _, _, _, _, _, _, _, _, _, _, _, h⟩ => h.elim
theorem same_new {H : Hp} {q : Addr} {o : HO} (n : H q = none) : Same H (upd H q o) := fun b u e => by rw [upd_ne (ne_of_none e n)]; exact e
theorem small20k {n : Nat} (h : n ≤ 20000) : n ≤ sizeLine := Nat.le_trans h (by decide)
theorem empty_app (s : Str) : Str.empty ++ s = s := by
  show Str.mk (#[] ++ s.cps) = s
  rw [Array.empty_append]
theorem once_id {l : List Str} (h : l.Nodup) : onceS l = l := by
  unfold onceS
  suffices q : ∀ (l acc : List Str), (acc ++ l).Nodup → l.foldl addOnce acc = acc ++ l from q l [] (by simpa using h)
  intro l
  induction l with
  | nil => intro acc _; rw [List.append_nil]; rfl
  | cons s l ih =>
    intro acc hn
    have hm : s ∉ acc := fun m => by
      rw [List.nodup_append] at hn
      exact hn.2.2 s m s (List.mem_cons_self ..) rfl
    have e : addOnce acc s = acc ++ [s] := by unfold addOnce; rw [if_neg hm]
    rw [List.foldl_cons, e, ih (acc ++ [s]) (by rw [List.append_assoc]; exact hn), List.append_assoc]
    rfl
theorem units65 {A : Around} {k : Nat} (hr : Room k A) : A.units + 65 < cLine := by have := hr.un; omega
end Yd
namespace Yd
open PySem L2
/-! ### a part follows another one; the twins -/
/-- what the steps and doors of a part are made of -/
structure Good (ss : List Str) (R : Str → Str → Bool) (ng : List (List Str × List Str)) : Prop where
  st : ∀ s t, R s t = true → s ∈ ss ∧ t ∈ ss ∧ s ≠ t
  nd : ∀ p ∈ ng, p.1.Nodup ∧ p.2.Nodup ∧ p.1.length ≤ 1000 ∧ p.2.length ≤ 1000
def spFollow (K : PySem.W.Frag) (fA fS fF fN fG fI fP fT fR fL : Addr) : Sp := fun vs H Q _ => ∃ (a a2 C dx : Addr) (nm : Str) (ds dd : Addr) (ss : List Str) (es ts : List Addr) (dx2 : Addr) (nm2 : Str) (ds2 dd2 : Addr) (es2 ts2 : List Addr) (R2 : Str → Str → Bool) (m2 : Nat) (ng2 : List (List Str × List Str)), vs = [.ref a, .ref a2] ∧
  PA H a C dx nm ds dd ss es ts (fun _ _ => false) 0 (ss.map fun _ => ([], [])) ∧ PA H a2 C dx2 nm2 ds2 dd2 ss es2 ts2 R2 m2 ng2 ∧ PartK K C fA fS fF fN fG fI fP fT fR fL ∧ Good ss R2 ng2 ∧ (dd ≠ ds2 ∧ dd ≠ dd2 ∧ dd ∉ es2) ∧ (∀ e ∈ es, e ≠ ds2 ∧ e ≠ dd2 ∧ e ∉ es2) ∧
  ss.length ≤ 10 ∧ (∀ s ∈ ss, s.length ≤ 100) ∧ ∀ (ts' : List Addr) (m' : Nat) (H' : Hp), (∀ b o, H b = some o → b ≠ dd → b ∉ es → H' b = some o) → PA H' a C dx nm ds dd ss es ts' R2 m' ng2 → m' ≤ 100 → Q .non H'
def spTwin (K : PySem.W.Frag) (C fA fS fF fN fG fI fP fT fR fL : Addr) : Sp := fun vs H Q _ => ∃ (a dx : Addr) (nm : Str) (ds dd : Addr) (ss : List Str) (es ts : List Addr) (R : Str → Str → Bool) (m : Nat) (ng : List (List Str × List Str)), vs = [.ref a] ∧ PA H a C dx nm ds dd ss es ts R m ng ∧ PartK K C fA fS fF fN fG fI fP fT fR fL ∧ Good ss R ng ∧
  0 < ss.length ∧ ss.length ≤ 10 ∧ (∀ s ∈ ss, s.length ≤ 100) ∧ ∀ (a2 dx2 ds2 dd2 : Addr) (es2 ts2 : List Addr) (m2 : Nat) (H' : Hp), Same H H' → H a2 = none → H ds2 = none → H dd2 = none → (∀ e ∈ es2, H e = none) → PA H' a2 C dx2 nm ds2 dd2 ss es2 ts2 R m2 ng → m2 ≤ 100 → Q (.ref a2) H'
section
variable {P : Program} {w : World} {K : PySem.W.Frag} {mg : Str → Option Value} {base : Heap}
def nFollow : List Str := ["self", "other", "standing", "after"]
theorem scFollow : FnScope nFollow ["self", "other"] (defScope sPartFollow) := ⟨rfl, rfl, rfl, by decide +kernel, rfl, by decide +kernel, by decide +kernel⟩
theorem ok_follow {f fA fS fF fN fG fI fP fT fR fL CU CN : Addr} {fd dS dF dA dI dP : FuncData} (F : Fun K "_follow" "Part._follow" sPartFollow f fd)
    (GS : FnOk P w K mg base CX0 1 fS dS ["self"] (spStandings K)) (bS : Binds K dS ["self"] []) (GF : FnOk P w K mg base (L2.CX P w) 3 fF dF ["self", "standing"] (spStepsFrom K CU)) (bF : Binds K dF ["self", "standing"] [])
    (GA : FnOk P w K mg base (L2.CX P w) 3 fA dA ["self", "before", "after"] (spAllow K CU CN)) (bA : Binds K dA ["self", "before", "after"] []) (GI : FnOk P w K mg base (L2.CX P w) 3 fI dI ["self", "at"] (spDGet K CU)) (bI : Binds K dI ["self", "at"] [])
    (GP : FnOk P w K mg base (L2.CX P w) 3 fP dP ["self", "at", "worth"] (spDPut K CU)) (bP : Binds K dP ["self", "at", "worth"] []) : FnOk P w K mg base CX0 5 f fd ["self", "other"] (spFollow K fA fS fF fN fG fI fP fT fR fL) := by
  refine F.ok scFollow (fun vs H Q E h => ?_) (fun cdv A outer s H vs Q E hr h => ?_)
  · obtain ⟨a, a2, C, dx, nm, ds, dd, ss, es, ts, dx2, nm2, ds2, dd2, es2, ts2, R2, m2, ng2, rfl, _⟩ := h
    rfl
  · obtain ⟨a, a2, C, dx, nm, ds, dd, ss, es, ts, dx2, nm2, ds2, dd2, es2, ts2, R2, m2, ng2, rfl, p1, p2, pk, gd, ⟨x1, x2, x3⟩, xe, hl, hs, k⟩ := h
    have r1 : Room 1 _ := hr.mono (by decide)
    have r3 : Room 3 _ := hr.mono (by decide)
    refine ⟨_, pss_one (ps_for PassesOwn.never rfl (pi_tup (pe_meth0 (pv 1) pk.k.cls pk.k.mS GS r1 bS .nil pass0)) (pg_name (i := 2) scFollow.nd rfl (Or.inl rfl))
      (pss_cons (ps_asg (pe_subO (E := fun _ _ _ _ => False) (pv 1) (pv 2) pk.d.gi GI hr bI (at_all passF)) (pg_subO (E := fun _ _ _ _ => False) (pv 0) (pv 2) pk.d.pi GP r3 bP (at_all passF)))
      (pss_one (ps_for PassesOwn.never rfl (pi_tup (pe_meth (pv 1) pk.k.cls pk.k.mF GF r3 bF .nil passF (pa_cons (pv 2) pa_nil))) (pg_name (i := 3) scFollow.nd rfl (Or.inl rfl))
        (pss_one (ps_expr (pe_meth (pv 0) pk.k.cls pk.k.mA GA r3 bA .nil passF (pa_cons (pv 2) (pa_cons (pv 3) pa_nil))))))))), ?_⟩
    have nS : ∀ nm ds dd, (fsPart nm ds dd).lookup ("standings" : Str) = none := fun nm ds dd => fs_no _ _ _ (by decide +kernel) (by decide +kernel) (by decide +kernel)
    have nF : ∀ nm ds dd, (fsPart nm ds dd).lookup ("steps_from" : Str) = none := fun nm ds dd => fs_no _ _ _ (by decide +kernel) (by decide +kernel) (by decide +kernel)
    have nA : ∀ nm ds dd, (fsPart nm ds dd).lookup ("allow" : Str) = none := fun nm ds dd => fs_no _ _ _ (by decide +kernel) (by decide +kernel) (by decide +kernel)
    refine ⟨_, rfl, a2, dx2, _, rfl, p2.at_, nS _ _ _, a2, C, fA, fS, fF, ss, R2, m2, rfl, pk.k, p2.kind, fun q hq => ?_⟩
    have sq : Same H (upd H q (.tup (ss.map V.str))) := same_new hq
    have eq : upd H q (.tup (ss.map V.str)) q = some (.tup (ss.map V.str)) := upd_same
    generalize upd H q (.tup (ss.map V.str)) = H1 at sq eq
    -- the invariant behind i standings
    let Fr : Hp → Hp → Prop := fun H H' => ∀ b o, H b = some o → b ≠ dd → b ∉ es → H' b = some o
    have frT : ∀ {H1 H2 H3 : Hp}, Fr H1 H2 → Fr H2 H3 → Fr H1 H3 := fun {H1 H2 H3} f g b o e n1 n2 => g b o (f b o e n1 n2) n1 n2
    have frS : ∀ {H1 H2 : Hp}, Same H1 H2 → Fr H1 H2 := fun {H1 H2} s b o e _ _ => s b o e
    have tups : ∀ {H1 H2 : Hp} {R1 : Str → Str → Bool} {m1 : Nat} {ts1 : List Addr} {ng1 : List (List Str × List Str)}, PA H1 a C dx nm ds dd ss es ts1 R1 m1 ng1 → Fr H1 H2 → ∀ b xs, H1 b = some (.tup xs) → H2 b = some (.tup xs) := fun {H1 H2 R1 m1 ts1 ng1} p f b xs e => by
      refine f b _ e (ne_of e p.D.d (by intro z; cases z)) fun he => ?_
      obtain ⟨j, hj⟩ := List.mem_iff_getElem?.mp he
      have hjl : j < ss.length := by rw [p.S.len]; exact (List.getElem?_eq_some_iff.mp hj).1
      obtain ⟨kvs, h, _⟩ := p.S.at_ j b _ hj (List.getElem?_eq_getElem hjl)
      rw [e] at h
      cases h
    refine ⟨q, rfl, ⟨_, SqT.of eq⟩, for_tup (K := K) (a := q) (xs := ss.map V.str) (fun i σ H' => Fr H H' ∧ H' q = some (.tup (ss.map V.str)) ∧ (∃ (R1 : Str → Str → Bool) (m1 : Nat) (ts1 : List Addr) (ng1 : List (List Str × List Str)), PA H' a C dx nm ds dd ss es ts1 R1 m1 ng1 ∧ m1 ≤ i * ss.length ∧
        (∀ s t, R1 s t = (R2 s t && decide (s ∈ ss.take i))) ∧ ∀ j, j < i → ng1[j]? = ng2[j]?) ∧ PA H' a2 C dx2 nm2 ds2 dd2 ss es2 ts2 R2 m2 ng2 ∧ ∃ v2 v3 : Option V, σ = [some (.ref a), some (.ref a2), v2, v3])
      ⟨frS sq, eq, ⟨_, 0, ts, _, p1.keep sq, Nat.zero_le _, fun s t => by simp, fun j h => absurd h (Nat.not_lt_zero _)⟩, p2.keep sq, _, _, rfl⟩ (fun i σ H' _ h => SqT.of h.2.1) ?_ ?_⟩
    · rintro i y σ H' hi ⟨f1, eq1, ⟨R1, m1, ts1, ng1, pa, hm1, hR1, hg1⟩, pb, v2, v3, rfl⟩
      obtain ⟨z, hz, rfl⟩ := get_strs2 hi
      have mz : z ∈ ss := List.mem_of_getElem? hz
      have il : i < ss.length := (List.getElem?_eq_some_iff.mp hz).1
      obtain ⟨pp, hpp⟩ : ∃ pp, ng2[i]? = some pp := ⟨_, List.getElem?_eq_getElem (by rw [pb.D.ln]; exact il)⟩
      obtain ⟨d1, d2, d3, d4⟩ := gd.nd pp (List.mem_of_getElem? hpp)
      refine ⟨_, rfl, _, rfl, a2, dx2, _, rfl, pb.at_, a2, C, ss, ng2, z, rfl, pk.k.cls, pk.d.nD, pb.door.rd, hs z mz, fun hn => absurd mz hn, fun i' p' t n g h1 h2 ht hn hg => ?_⟩
      have ei := nd_ix pb.S.nd h1 hz
      subst ei
      have ep : p' = pp := Option.some.inj (h2.symm.trans hpp)
      subst ep
      refine ⟨_, rfl, _, rfl, a, dx, _, rfl, pa.at_, a, C, dx, _, dd, ts1, ss, ng1, z, t, n, g, p'.1, p'.2, rfl, pk.d.cls, pk.d.nD, pa.at_, fs_doors _ _ _, pa.D, hs z mz, ht, .inr (SqT.of hn), .inr (SqT.of hg), d3, d4, by omega, fun hn => absurd mz hn, fun i2 h3 ts' H2 g2 D2 => ?_⟩
      have ei := nd_ix pb.S.nd h3 hz
      subst ei
      rw [once_id d1, once_id d2] at D2
      have pa2 := pa.put g2 D2
      have pb2 := pb.off g2 ⟨_, pa.D.d⟩ x1 x2 x3
      have f2 : Fr H' H2 := fun b o e n1 _ => g2 b o e n1
      have eq2 := tups pa f2 _ _ eq1
      refine ⟨_, rfl, a2, dx2, _, rfl, pb2.at_, nF _ _ _, _, rfl, a2, C, fA, fS, fF, ss, R2, m2, z, rfl, pk.k, pb2.kind, by omega, hs z mz, fun hn => absurd mz hn, fun _ r H3 s3 er => ?_⟩
      have ng_ : ∀ j, j < i2 + 1 → (ng1.set i2 (p'.1, p'.2))[j]? = ng2[j]? := fun j hj => by
        by_cases e : i2 = j
        · subst e
          rw [List.getElem?_set_self (by rw [pa.D.ln]; exact il), hpp]
        · rw [List.getElem?_set_ne e]
          exact hg1 j (by omega)
      -- the steps of this standing
      refine ⟨r, rfl, ⟨_, SqT.of er⟩, for_tup (K := K) (a := r) (xs := (ss.filter (R2 z)).map V.str) (fun kk σ H4 => Fr H3 H4 ∧ H4 r = some (.tup ((ss.filter (R2 z)).map V.str)) ∧ H4 q = some (.tup (ss.map V.str)) ∧ (∃ (R1' : Str → Str → Bool) (m1' : Nat), PA H4 a C dx nm ds dd ss es ts' R1' m1' (ng1.set i2 (p'.1, p'.2)) ∧ m1' ≤ i2 * ss.length + kk ∧
          ∀ s t, R1' s t = ((R2 s t && decide (s ∈ ss.take i2)) || (decide (s = z) && decide (t ∈ (ss.filter (R2 z)).take kk)))) ∧ PA H4 a2 C dx2 nm2 ds2 dd2 ss es2 ts2 R2 m2 ng2 ∧ ∃ v3 : Option V, σ = [some (.ref a), some (.ref a2), some (.str z), v3])
        ⟨fun b o e _ _ => e, er, s3 _ _ eq2, ⟨R1, m1, pa2.keep s3, hm1, fun s t => by rw [hR1]; simp⟩, pb2.keep s3, _, rfl⟩ (fun kk σ H4 _ h => SqT.of h.2.1) ?_ ?_⟩
      · rintro kk y σ H4 hk ⟨f4, er4, eq4, ⟨R1', m1', pa4, hm4, hR4⟩, pb4, v3', rfl⟩
        obtain ⟨c, hc, rfl⟩ := get_strs2 hk
        have mc := List.mem_filter.mp (List.mem_of_getElem? hc)
        have zc := (gd.st z c mc.2).2.2
        have kl : kk < ss.length := Nat.lt_of_lt_of_le (List.getElem?_eq_some_iff.mp hc).1 (List.length_filter_le _ _)
        have b1 : i2 * ss.length ≤ 10 * 10 := Nat.mul_le_mul (by omega) hl
        refine ⟨_, rfl, a, dx, _, rfl, pa4.at_, nA _ _ _, _, rfl, _, rfl, a, C, dx, _, ds, es, ss, R1', m1', z, c, rfl, pk.k.cls, pk.k.nS, pa4.at_, fs_steps _ _ _, pa4.S, by omega, hs z mz, hs c mc.1, fun hn => absurd mz hn, fun _ hn => absurd mc.1 hn, fun _ _ e => absurd e zc, fun _ _ _ e H5 he g5 S5 => ?_⟩
        have f5 : Fr H4 H5 := fun b o eb _ n2 => g5 b o eb (by rintro rfl; exact n2 he)
        obtain ⟨y1, y2, y3⟩ := xe e he
        obtain ⟨je, hje⟩ := List.mem_iff_getElem?.mp he
        have hjl : je < ss.length := by rw [pa4.S.len]; exact (List.getElem?_eq_some_iff.mp hje).1
        obtain ⟨kvs, hkv, _⟩ := pa4.S.at_ je e _ hje (List.getElem?_eq_getElem hjl)
        refine ⟨frT f4 f5, tups pa4 f5 _ _ er4, tups pa4 f5 _ _ eq4, ⟨_, m1' + 1, pa4.step he g5 S5, by omega, fun s t => ?_⟩, pb4.off g5 ⟨_, hkv⟩ y1 y2 y3, _, rfl⟩
        unfold addR
        rw [hR4, take_more hc]
        by_cases e1 : s = z
        · subst e1
          by_cases e2 : t = c
          · subst e2
            simp
          · simp [e2]
        · simp [e1]
      · rintro σ H4 ⟨f4, er4, eq4, ⟨R1', m1', pa4, hm4, hR4⟩, pb4, v3', rfl⟩
        refine ⟨frT f1 (frT f2 (frT (frS s3) f4)), eq4, ⟨R1', m1', ts', _, pa4, ?_, fun s t => ?_, ng_⟩, pb4, _, _, rfl⟩
        · have q1 : ((ss.filter (R2 z)).map V.str).length ≤ ss.length := by rw [List.length_map]; exact List.length_filter_le _ _
          rw [Nat.add_mul, Nat.one_mul]
          omega
        · rw [hR4, take_more hz, List.length_map, List.take_length]
          by_cases e1 : s = z
          · subst e1
            cases hq : R2 s t with
            | true =>
              have m1 := (gd.st s t hq).2.1
              simp [List.mem_filter, hq, m1]
            | false => simp [List.mem_filter, hq]
          · simp [e1]
    · rintro σ H' ⟨f1, _, ⟨R1, m1, ts1, ng1, pa, hm1, hR1, hg1⟩, pb, v2, v3, rfl⟩
      rw [List.length_map] at hm1 hg1
      have eR : R1 = R2 := by
        funext s t
        rw [hR1, List.length_map, List.take_length]
        cases hq : R2 s t with
        | true => simp [(gd.st s t hq).1]
        | false => rfl
      have eN : ng1 = ng2 := by
        refine List.ext_getElem? fun j => ?_
        rcases Nat.lt_or_ge j ss.length with h | h
        · exact hg1 j h
        · rw [List.getElem?_eq_none (by rw [pa.D.ln]; exact h), List.getElem?_eq_none (by rw [pb.D.ln]; exact h)]
      subst eR eN
      have b1 : ss.length * ss.length ≤ 10 * 10 := Nat.mul_le_mul hl hl
      exact k ts1 m1 H' f1 pa (by omega)
theorem scSingleTwin : FnScope ["self", "made"] ["self"] (defScope sSingleTwin) := ⟨rfl, rfl, rfl, by decide +kernel, rfl, by decide +kernel, by decide +kernel⟩
theorem ok_singleTwin {f C fA fS fF fN fG fI fP fT fR fL f0 CR : Addr} {fd dS dL d0 : FuncData} (F : Fun K "twin" "Single.twin" sSingleTwin f fd) (gC : mg "Single" = some (.ref C)) (M : Mk K C f0)
    (G0 : FnOk P w K mg base (L2.CX P w) 5 f0 d0 ["self", "name", "standings"] (spPartInit K CR)) (b0 : Binds K d0 ["self", "name", "standings"] [])
    (GS : FnOk P w K mg base CX0 1 fS dS ["self"] (spStandings K)) (bS : Binds K dS ["self"] []) (GL : FnOk P w K mg base CX0 5 fL dL ["self", "other"] (spFollow K fA fS fF fN fG fI fP fT fR fL)) (bL : Binds K dL ["self", "other"] []) :
    FnOk P w K mg base CX0 7 f fd ["self"] (spTwin K C fA fS fF fN fG fI fP fT fR fL) := by
  refine F.ok scSingleTwin (fun vs H Q E h => ?_) (fun cdv A outer s H vs Q E hr h => ?_)
  · obtain ⟨a, dx, nm, ds, dd, ss, es, ts, R, m, ng, rfl, _⟩ := h
    rfl
  · obtain ⟨a, dx, nm, ds, dd, ss, es, ts, R, m, ng, rfl, pa, pk, gd, h0, hl, hs, k⟩ := h
    have r1 : Room 1 _ := hr.mono (by decide)
    have r5 : Room 5 _ := hr.mono (by decide)
    refine ⟨_, pss_cons (ps_set (i := 1) scSingleTwin.nd rfl (Or.inl rfl) (pe_make M G0 hr (by rfl) gC b0 .nil passF (pa_cons (pe_fld (pv 0) rfl) (pa_cons (pe_meth0 (pv 0) pk.k.cls pk.k.mS GS r1 bS .nil pass0) pa_nil))))
      (pss_cons (ps_expr (pe_meth (pv 1) pk.k.cls pk.mL GL r5 bL .nil pass0 (pa_cons (pv 0) pa_nil)))
      (pss_one (ps_ret (pv 1)))), ?_⟩
    refine ⟨_, rfl, a, C, dx, _, _, rfl, pa.at_, pk.k.cls, pk.pc.nN, fs_name _ _ _, _, rfl, a, dx, _, rfl, pa.at_, fs_no _ _ _ (by decide +kernel) (by decide +kernel) (by decide +kernel), a, C, fA, fS, fF, ss, R, m, rfl, pk.k, pa.kind, fun q hq => ?_⟩
    have sq : Same H (upd H q (.tup (ss.map V.str))) := same_new hq
    have eq : upd H q (.tup (ss.map V.str)) q = some (.tup (ss.map V.str)) := upd_same
    generalize upd H q (.tup (ss.map V.str)) = H1 at sq eq
    intro x dx2 nx nd ne
    have s2 : Same H1 (upd (upd H1 dx2 (.own x)) x (.ins C dx2 [])) := fun b o e => by rw [upd_ne (ne_of_none e nx), upd_ne (ne_of_none e nd)]; exact e
    have i2 : upd (upd H1 dx2 (.own x)) x (.ins C dx2 []) x = some (.ins C dx2 []) := upd_same
    generalize upd (upd H1 dx2 (.own x)) x (.ins C dx2 []) = H2 at s2 i2
    refine ⟨x, C, dx2, nm, q, ss, rfl, i2, pk.pc, .inr (SqT.of (s2 _ _ eq)), by omega, hs, fun i s h1 h2 _ => ?_, fun _ ds2 es2 dd2 ts2 H3 n1 n2 n3 g3 e3 S3 D3 => ⟨rfl, ?_⟩⟩
    · obtain ⟨j, hj⟩ := List.mem_iff_getElem?.mp h2
      have hji : j < i := by
        have := (List.getElem?_eq_some_iff.mp hj).1
        rw [List.length_take] at this
        omega
      rw [List.getElem?_take_of_lt hji] at hj
      exact absurd (nd_ix pa.S.nd h1 hj) (by omega)
    have s02 := sq.trans s2
    have s3 : Same H H3 := fun b o e => g3 b o (s02 b o e) (ne_of_none (sq b o e) nx)
    have p2 := pa_new e3 S3 D3 h0
    have fr : ∀ b, H2 b = none → H b = none := fun b n => s02.free n
    have t0 := pa.tracked
    have nn : ∀ {b c : Addr}, H2 b = none → (∃ o, H c = some o) → b ≠ c := fun {b c} n ⟨o, e⟩ => (ne_of_none (s02 c o e) n).symm
    refine ⟨_, rfl, x, dx2, _, rfl, e3, fs_no _ _ _ (by decide +kernel) (by decide +kernel) (by decide +kernel), _, rfl, x, a, C, dx2, nm, ds2, dd2, ss, es2, ts2, dx, nm, ds, dd, es, ts, R, m, ng, rfl, p2, pa.keep s3, pk, gd, ⟨nn n3 t0.1, nn n3 t0.2.1, fun q => nn n3 (t0.2.2 _ q) rfl⟩,
      fun e he => ⟨nn (n2 e he) t0.1, nn (n2 e he) t0.2.1, fun q => nn (n2 e he) (t0.2.2 _ q) rfl⟩, hl, hs, fun ts' m' H4 f4 p4 hm4 => ?_⟩
    refine ⟨_, rfl, k x dx2 ds2 dd2 es2 ts' m' H4 (fun b o e => f4 b o (s3 b o e) (nn n3 ⟨o, e⟩).symm fun q => (nn (n2 b q) ⟨o, e⟩) rfl) (sq.free nx) (fr _ n1) (fr _ n3) (fun e he => fr _ (n2 e he)) p4 hm4⟩
theorem scManyTwin : FnScope ["self", "made"] ["self"] (defScope sManyTwin) := ⟨rfl, rfl, rfl, by decide +kernel, rfl, by decide +kernel, by decide +kernel⟩
theorem ok_manyTwin {f C fA fS fF fN fG fI fP fT fR fL f0 CR : Addr} {fd dS dL d0 : FuncData} (F : Fun K "twin" "Many.twin" sManyTwin f fd) (gC : mg "Many" = some (.ref C)) (M : Mk K C f0)
    (G0 : FnOk P w K mg base (L2.CX P w) 5 f0 d0 ["self", "name", "standings"] (spPartInit K CR)) (b0 : Binds K d0 ["self", "name", "standings"] [])
    (GS : FnOk P w K mg base CX0 1 fS dS ["self"] (spStandings K)) (bS : Binds K dS ["self"] []) (GL : FnOk P w K mg base CX0 5 fL dL ["self", "other"] (spFollow K fA fS fF fN fG fI fP fT fR fL)) (bL : Binds K dL ["self", "other"] []) :
    FnOk P w K mg base CX0 7 f fd ["self"] (spTwin K C fA fS fF fN fG fI fP fT fR fL) := by
  refine F.ok scManyTwin (fun vs H Q E h => ?_) (fun cdv A outer s H vs Q E hr h => ?_)
  · obtain ⟨a, dx, nm, ds, dd, ss, es, ts, R, m, ng, rfl, _⟩ := h
    rfl
  · obtain ⟨a, dx, nm, ds, dd, ss, es, ts, R, m, ng, rfl, pa, pk, gd, h0, hl, hs, k⟩ := h
    have r1 : Room 1 _ := hr.mono (by decide)
    have r5 : Room 5 _ := hr.mono (by decide)
    refine ⟨_, pss_cons (ps_set (i := 1) scManyTwin.nd rfl (Or.inl rfl) (pe_make M G0 hr (by rfl) gC b0 .nil passF (pa_cons (pe_fld (pv 0) rfl) (pa_cons (pe_meth0 (pv 0) pk.k.cls pk.k.mS GS r1 bS .nil pass0) pa_nil))))
      (pss_cons (ps_expr (pe_meth (pv 1) pk.k.cls pk.mL GL r5 bL .nil pass0 (pa_cons (pv 0) pa_nil)))
      (pss_one (ps_ret (pv 1)))), ?_⟩
    refine ⟨_, rfl, a, C, dx, _, _, rfl, pa.at_, pk.k.cls, pk.pc.nN, fs_name _ _ _, _, rfl, a, dx, _, rfl, pa.at_, fs_no _ _ _ (by decide +kernel) (by decide +kernel) (by decide +kernel), a, C, fA, fS, fF, ss, R, m, rfl, pk.k, pa.kind, fun q hq => ?_⟩
    have sq : Same H (upd H q (.tup (ss.map V.str))) := same_new hq
    have eq : upd H q (.tup (ss.map V.str)) q = some (.tup (ss.map V.str)) := upd_same
    generalize upd H q (.tup (ss.map V.str)) = H1 at sq eq
    intro x dx2 nx nd ne
    have s2 : Same H1 (upd (upd H1 dx2 (.own x)) x (.ins C dx2 [])) := fun b o e => by rw [upd_ne (ne_of_none e nx), upd_ne (ne_of_none e nd)]; exact e
    have i2 : upd (upd H1 dx2 (.own x)) x (.ins C dx2 []) x = some (.ins C dx2 []) := upd_same
    generalize upd (upd H1 dx2 (.own x)) x (.ins C dx2 []) = H2 at s2 i2
    refine ⟨x, C, dx2, nm, q, ss, rfl, i2, pk.pc, .inr (SqT.of (s2 _ _ eq)), by omega, hs, fun i s h1 h2 _ => ?_, fun _ ds2 es2 dd2 ts2 H3 n1 n2 n3 g3 e3 S3 D3 => ⟨rfl, ?_⟩⟩
    · obtain ⟨j, hj⟩ := List.mem_iff_getElem?.mp h2
      have hji : j < i := by
        have := (List.getElem?_eq_some_iff.mp hj).1
        rw [List.length_take] at this
        omega
      rw [List.getElem?_take_of_lt hji] at hj
      exact absurd (nd_ix pa.S.nd h1 hj) (by omega)
    have s02 := sq.trans s2
    have s3 : Same H H3 := fun b o e => g3 b o (s02 b o e) (ne_of_none (sq b o e) nx)
    have p2 := pa_new e3 S3 D3 h0
    have fr : ∀ b, H2 b = none → H b = none := fun b n => s02.free n
    have t0 := pa.tracked
    have nn : ∀ {b c : Addr}, H2 b = none → (∃ o, H c = some o) → b ≠ c := fun {b c} n ⟨o, e⟩ => (ne_of_none (s02 c o e) n).symm
    refine ⟨_, rfl, x, dx2, _, rfl, e3, fs_no _ _ _ (by decide +kernel) (by decide +kernel) (by decide +kernel), _, rfl, x, a, C, dx2, nm, ds2, dd2, ss, es2, ts2, dx, nm, ds, dd, es, ts, R, m, ng, rfl, p2, pa.keep s3, pk, gd, ⟨nn n3 t0.1, nn n3 t0.2.1, fun q => nn n3 (t0.2.2 _ q) rfl⟩,
      fun e he => ⟨nn (n2 e he) t0.1, nn (n2 e he) t0.2.1, fun q => nn (n2 e he) (t0.2.2 _ q) rfl⟩, hl, hs, fun ts' m' H4 f4 p4 hm4 => ?_⟩
    refine ⟨_, rfl, k x dx2 ds2 dd2 es2 ts' m' H4 (fun b o e => f4 b o (s3 b o e) (nn n3 ⟨o, e⟩).symm fun q => (nn (n2 b q) ⟨o, e⟩) rfl) (sq.free nx) (fr _ n1) (fr _ n3) (fun e he => fr _ (n2 e he)) p4 hm4⟩
end
end Yd
namespace Yd
open PySem L2
/-! ### the names of a script are all different -/
theorem kSigns_nd : kSigns.Nodup := by decide +kernel
theorem sgn_not : ∀ s ∈ ("mnopqrstuvwxyz0123456789" : Str).cps.toList, s ∉ kSigns := by decide +kernel
theorem app_cps (a b : Str) : (a ++ b).cps.toList = a.cps.toList ++ b.cps.toList := by show (a.cps ++ b.cps).toList = _; rw [Array.toList_append]
theorem name_inj {i j : Nat} {x : Str} (hi : NameK i x) (hj : NameK j x) : i = j := by
  obtain ⟨_, s, a, b, hs, e, ha, hb⟩ := hi
  obtain ⟨_, t, a', b', ht, e', ha', hb'⟩ := hj
  have fl : ∀ (u : Nat) (c d : Str), u ∈ kSigns → Sgn c → Sgn d → ((c ++ (⟨#[u]⟩ : Str) ++ d).cps.toList).filter (fun c => decide (c ∈ kSigns)) = [u] := fun u c d hu hc hd => by
    have h1 : c.cps.toList.filter (fun c => decide (c ∈ kSigns)) = [] := List.filter_eq_nil_iff.mpr fun v hv => by simpa using sgn_not v (hc v hv)
    have h2 : d.cps.toList.filter (fun c => decide (c ∈ kSigns)) = [] := List.filter_eq_nil_iff.mpr fun v hv => by simpa using sgn_not v (hd v hv)
    rw [app_cps, app_cps, List.filter_append, List.filter_append, h1, h2, List.append_nil, List.nil_append]
    show List.filter _ [u] = [u]
    rw [List.filter_cons, if_pos (decide_eq_true hu)]
    rfl
  have f1 := fl s a b (List.mem_of_getElem? hs) ha hb
  have f2 := fl t a' b' (List.mem_of_getElem? ht) ha' hb'
  rw [← e, e', f2] at f1
  injection f1 with f1
  subst f1
  exact nd_ix kSigns_nd hs ht
theorem name_nodup {ns : List Str} (h : ∀ i s, ns[i]? = some s → NameK i s) : ns.Nodup := by
  refine List.pairwise_iff_getElem.mpr fun i j hi hj hij e => ?_
  have h1 : ns[j]? = some ns[j] := List.getElem?_eq_getElem hj
  have h2 : ns[i]? = some ns[j] := by rw [List.getElem?_eq_getElem hi, e]
  exact absurd (name_inj (h i _ h2) (h j _ h1)) (by omega)
theorem cut_take (ss : List Str) (n : Nat) : cutV (ss.map V.str) none (some (n : Int)) = (ss.take n).map V.str := by
  unfold cutV
  rw [HT.sIx_none, HT.sIx_nat, List.drop_zero, Nat.sub_zero, List.map_take, List.length_map]
  rcases Nat.le_total n ss.length with h | h
  · rw [Nat.min_eq_left h]
  · rw [Nat.min_eq_right h, List.take_of_length_le (by rw [List.length_map]; exact Nat.le_refl _), List.take_of_length_le (by rw [List.length_map]; exact h)]
theorem sizes {v : Int} (h0 : 0 ≤ v) (h1 : v < 10) : ∃ n : Nat, atI [V.int 2, V.int 1, V.int 3, V.int 4, V.int 5, V.int 6, V.int 7, V.int 8, V.int 9, V.int 10] v = some (.int (n : Int)) ∧ 1 ≤ n ∧ n ≤ 10 := by
  obtain ⟨j, rfl⟩ : ∃ j : Nat, v = (j : Int) := ⟨v.toNat, by omega⟩
  have hj : j < 10 := by omega
  match j, hj with
  | 0, _ => exact ⟨2, at_c rfl rfl, by omega, by omega⟩
  | 1, _ => exact ⟨1, at_c rfl rfl, by omega, by omega⟩
  | 2, _ => exact ⟨3, at_c rfl rfl, by omega, by omega⟩
  | 3, _ => exact ⟨4, at_c rfl rfl, by omega, by omega⟩
  | 4, _ => exact ⟨5, at_c rfl rfl, by omega, by omega⟩
  | 5, _ => exact ⟨6, at_c rfl rfl, by omega, by omega⟩
  | 6, _ => exact ⟨7, at_c rfl rfl, by omega, by omega⟩
  | 7, _ => exact ⟨8, at_c rfl rfl, by omega, by omega⟩
  | 8, _ => exact ⟨9, at_c rfl rfl, by omega, by omega⟩
  | 9, _ => exact ⟨10, at_c rfl rfl, by omega, by omega⟩
  | j + 10, h => omega
theorem small100 {n : Nat} (h : n ≤ 100) : n ≤ sizeLine := Nat.le_trans h (by decide)
end Yd
namespace Yd
open PySem L2
/-! ### kinds as the law draws them -/
theorem inV_strs (s : Str) : ∀ ss : List Str, inV (.str s) (ss.map V.str) = decide (s ∈ ss)
  | [] => rfl
  | t :: ss => by
    have e : inV (.str s) ((t :: ss).map V.str) = (eqV (.str t) (.str s) || inV (.str s) (ss.map V.str)) := rfl
    rw [e, inV_strs s ss]
    by_cases h : t = s
    · subst h
      have h1 : eqV (.str t) (.str t) = true := by simp [eqV]
      rw [h1, decide_eq_true (List.mem_cons_self ..)]
      rfl
    · have h1 : eqV (.str t) (.str s) = false := by simp [eqV, h]
      rw [h1, Bool.false_or]
      exact decide_eq_decide.mpr ⟨fun m => List.mem_cons_of_mem _ m, fun m => (List.mem_cons.mp m).elim (fun q => absurd q.symm h) id⟩
theorem flat_strs : ∀ ss : List Str, (ss.map V.str).all flatV = true
  | [] => rfl
  | t :: ss => by
    show (flatV (.str t) && (ss.map V.str).all flatV) = true
    rw [flat_strs ss]
    rfl
theorem at_s {ss : List Str} {n : Nat} {s : Str} (h : ss[n]? = some s) {z : Int} (e : z = (n : Int)) : atI (ss.map V.str) z = some (.str s) := at_c (by rw [List.getElem?_map, h]; rfl) e
theorem at_r {us : List Addr} {n : Nat} {t : Addr} (h : us[n]? = some t) {z : Int} (e : z = (n : Int)) : atI (us.map V.ref) z = some (.ref t) := at_c (by rw [List.getElem?_map, h]; rfl) e
theorem Pool.noL {H H' : Hp} {p c : Addr} (h : Pool H p c) (g : Gro p H H') : ∀ b o, H b = some o → (∀ xs, o ≠ .lst xs) → H' b = some o := fun b o e n => by
  obtain ⟨ys, hp, _⟩ := h
  refine g b o e ?_
  rintro rfl
  rw [hp] at e
  exact n ys (Option.some.inj e).symm
/-- a pool stays where a dict changes -/
theorem Pool.dict {H H' : Hp} {p c d : Addr} (h : Pool H p c) (g : Gro d H H') (hd : ∃ kvs, H d = some (.dK kvs)) : Pool H' p c := by
  obtain ⟨kvs, hd⟩ := hd
  have lk : ∀ b xs, H b = some (.lst xs) → H' b = some (.lst xs) := fun b xs e => g _ _ e (ne_of e hd (by intro z; cases z))
  obtain ⟨ys, e, q⟩ := h
  refine ⟨ys, lk _ _ e, ?_⟩
  rcases q with q | ⟨x, i, cs, e1, e2, e3, q⟩
  · exact .inl q
  · exact .inr ⟨x, i, cs, e1, e2, lk _ _ e3, q⟩
def spSome : Sp := fun vs H Q _ => ∃ (p c l : Addr) (rs : List Str) (k : Nat), vs = [.ref p, .ref l, .int k] ∧ Pool H p c ∧ H l = some (.lst (rs.map V.str)) ∧ l ≠ p ∧ 0 < rs.length ∧ rs.length ≤ 10 ∧ k ≤ 5 ∧
  ∀ (q : Addr) (xs : List Str) (H' : Hp), Gro p H H' → Pool H' p c → H q = none → H' q = some (.lst (xs.map V.str)) → xs.Nodup → (∀ x ∈ xs, x ∈ rs) → xs.length ≤ 5 → Q (.ref q) H'
section
variable {P : Program} {w : World} {K : PySem.W.Frag} {mg : Str → Option Value} {base : Heap}
theorem scSome : FnScope ["_law_pool_here", "_law_rows", "_law_most", "_law_found", "_law_k", "_law_row"] ["_law_pool_here", "_law_rows", "_law_most"] (defScope sSome) := ⟨rfl, rfl, rfl, by decide +kernel, rfl, by decide +kernel, by decide +kernel⟩
theorem ok_some {f fT : Addr} {fd fdT : FuncData} (F : Fun K "_law_some" "_law_some" sSome f fd) (B : Blt mg) (T : Fn K mg "_law_take" sTake ["_law_pool_here", "_law_size"] fT fdT) : FnOk P w K mg base CX0 2 f fd ["_law_pool_here", "_law_rows", "_law_most"] spSome := by
  have GT : FnOk P w K mg base CX0 1 fT fdT ["_law_pool_here", "_law_size"] spTake := ok_take T.F B
  refine F.ok scSome (fun vs H Q E h => ?_) (fun cdv A outer s H vs Q E hr h => ?_)
  · obtain ⟨p, c, l, rs, k, rfl, _⟩ := h
    rfl
  · obtain ⟨p, c, l, rs, kk, rfl, hP, hl, nlp, r0, r1, k3, k⟩ := h
    refine ⟨_, pss_cons (ps_set (i := 3) scSome.nd rfl (Or.inl rfl) (pe_lst pa_nil))
      (pss_cons (ps_for PassesOwn.never rfl (pi_range1 rfl B.range (pa_cons (pe_op op_sub (pv 2) (pe_call GT hr rfl T.g T.F.kp T.b .nil pass0 (pa_cons (pv 0) (pa_cons (pe_op op_add (pv 2) pe_int) pa_nil)))) pa_nil)) (pg_name (i := 4) scSome.nd rfl (Or.inl rfl))
        (pss_cons (ps_set (i := 5) scSome.nd rfl (Or.inl rfl) (pe_ix ix_list (pv 1) (pe_call GT hr rfl T.g T.F.kp T.b .nil pass0 (pa_cons (pv 0) (pa_cons (pe_callB call_len_seq (by rfl) B.len PySem.boot_len (pa_cons (pv 1) pa_nil)) pa_nil))) (fun _ _ => rfl)))
        (pss_one (ps_if (pt_cmpR op_notIn_seq (pv 5) (pv 3) rfl) (pss_one (ps_expr (pe_bm PySem.F.plainAttrs_list PySem.F.slot_list_append PySem.F.type_list_append mt_append (pv 3) (pa_cons (pv 5) pa_nil)))) pss_nil))))
      (pss_one (ps_ret (pv 3)))), ?_⟩
    refine ⟨(by show 0 ≤ sizeLine; omega), fun D hD => ?_⟩
    obtain ⟨nDp, nDc⟩ := hP.ne hD
    have s0 : Same H (upd H D (.lst [])) := same_new hD
    refine ⟨_, rfl, _, rfl, _, rfl, _, _, rfl, rfl, p, c, _, rfl, hP.new hD, by omega, Nat.lt_of_le_of_lt (m := 100) (by omega) (by decide), fun v H1 v0 v1 g1 P1 => ⟨_, _, rfl, rfl, _, rfl, by omega, by omega, for_range (lo := 0) (n := ((kk : Int) - v).toNat)
      (fun i σ H' => Gro p H H' ∧ Pool H' p c ∧ ∃ (xs : List Str) (v4 v5 : Option V), H' D = some (.lst (xs.map V.str)) ∧ xs.Nodup ∧ (∀ x ∈ xs, x ∈ rs) ∧ xs.length ≤ i ∧ σ = [some (.ref p), some (.ref l), some (.int (kk : Int)), some (.ref D), v4, v5])
      ⟨(Gro.of_same s0).trans g1, P1, [], _, _, g1 _ _ upd_same nDp, List.nodup_nil, fun x h => (nomatch h), Nat.zero_le _, rfl⟩ ?_ ?_⟩⟩
    · rintro i σ H2 hi ⟨g2, P2, xs, v4, v5, e2, nd, sub, xl, rfl⟩
      have l2 := g2 _ _ hl nlp
      refine ⟨_, rfl, _, rfl, _, rfl, l, _, rfl, .inl (SqL.of l2), p, c, _, rfl, P2, by rw [List.length_map]; omega, by rw [List.length_map]; exact Nat.lt_of_le_of_lt (m := 100) (by omega) (by decide), fun x H3 x0 x1 g3 P3 => ?_⟩
      rw [List.length_map] at x1
      obtain ⟨y, hy⟩ : ∃ y, rs[x.toNat]? = some y := ⟨_, List.getElem?_eq_getElem (by omega)⟩
      have e3 := g3 _ _ e2 nDp
      refine ⟨l, _, x, _, rfl, rfl, SqL.of (g3 _ _ l2 nlp), at_s hy (by omega), ?_⟩
      refine ⟨_, rfl, _, rfl, D, _, rfl, .inl (SqL.of e3), rfl, flat_strs _, _, rfl, ?_⟩
      rw [inV_strs]
      by_cases hm : y ∈ xs
      · rw [decide_eq_true hm]
        exact no rfl ⟨g2.trans g3, P3, xs, _, _, e3, nd, sub, by omega, rfl⟩
      · rw [decide_eq_false hm]
        refine yes rfl ⟨_, rfl, .inl ⟨rfl, _, SqL.of e3⟩, _, rfl, D, _, _, rfl, rfl, e3, small1000 (by rw [List.length_map]; omega), fun b o e ne => ?_, P3.off nDp nDc, xs ++ [y], _, _, by rw [upd_same, List.map_append]; rfl, nd_snoc nd hm, fun x' hx' => ?_, by rw [List.length_append]; show xs.length + 1 ≤ i + 1; omega, rfl⟩
        · rw [upd_ne (ne_of_none e hD)]
          exact g3 _ _ (g2 _ _ e ne) ne
        · rcases List.mem_append.mp hx' with q | q
          · exact sub _ q
          · rw [List.mem_singleton.mp q]
            exact List.mem_of_getElem? hy
    · rintro σ H2 ⟨g2, P2, xs, v4, v5, e2, nd, sub, xl, rfl⟩
      exact ⟨_, rfl, k D xs H2 g2 P2 hD e2 nd sub (by omega)⟩
end
/-- the heap without the pool's list -/
def off (p : Addr) (H : Hp) : Hp := fun b => if b = p then none else H b
theorem off_ne {p b : Addr} {H : Hp} (n : b ≠ p) : off p H b = H b := if_neg n
theorem off_self {p : Addr} {H : Hp} : off p H p = none := if_pos rfl
theorem off_is {p b : Addr} {H : Hp} {o : HO} (e : off p H b = some o) : b ≠ p ∧ H b = some o := by
  by_cases n : b = p
  · rw [n, off_self] at e; cases e
  · rw [off_ne n] at e; exact ⟨n, e⟩
theorem off_sub {p : Addr} {H : Hp} : Same (off p H) H := fun b o e => (off_is e).2
theorem off_gro {p : Addr} {H H' : Hp} (g : Gro p H H') : Same (off p H) (off p H') := fun b o e => by
  obtain ⟨n, e⟩ := off_is e
  rw [off_ne n]
  exact g b o e n
theorem off_at {p b : Addr} {H : Hp} {o : HO} (e : H b = some o) (n : b ≠ p) : off p H b = some o := by rw [off_ne n]; exact e
/-- lists of texts at these places -/
def StrLs (H : Hp) : List Addr → List (List Str) → Prop
  | [], [] => True
  | a :: as, xs :: xss => H a = some (.lst (xs.map V.str)) ∧ StrLs H as xss
  | _, _ => False
theorem StrLs.keep {H H' : Hp} (s : Same H H') : ∀ {as : List Addr} {xss : List (List Str)}, StrLs H as xss → StrLs H' as xss
  | [], [], _ => True.intro
  | _ :: _, _ :: _, ⟨h, r⟩ => ⟨s _ _ h, StrLs.keep s r⟩
  | [], _ :: _, h => h.elim
  | _ :: _, [], h => h.elim
theorem StrLs.len {H : Hp} : ∀ {as : List Addr} {xss : List (List Str)}, StrLs H as xss → as.length = xss.length
  | [], [], _ => rfl
  | _ :: _, _ :: _, ⟨_, r⟩ => by rw [List.length_cons, List.length_cons, StrLs.len r]
  | [], _ :: _, h => h.elim
  | _ :: _, [], h => h.elim
theorem StrLs.snoc {H : Hp} {u : Addr} {ys : List Str} (e : H u = some (.lst (ys.map V.str))) : ∀ {as : List Addr} {xss : List (List Str)}, StrLs H as xss → StrLs H (as ++ [u]) (xss ++ [ys])
  | [], [], _ => ⟨e, True.intro⟩
  | _ :: _, _ :: _, ⟨h, r⟩ => ⟨h, StrLs.snoc e r⟩
  | [], _ :: _, h => h.elim
  | _ :: _, [], h => h.elim
theorem StrLs.get {H : Hp} : ∀ {as : List Addr} {xss : List (List Str)} {i : Nat} {xs : List Str}, StrLs H as xss → xss[i]? = some xs → ∃ a, as[i]? = some a ∧ H a = some (.lst (xs.map V.str))
  | [], [], _, _, _, h => by simp at h
  | a :: _, _ :: _, 0, xs, ⟨h, _⟩, e => ⟨a, rfl, by rw [← Option.some.inj e]; exact h⟩
  | _ :: _, _ :: _, i + 1, xs, ⟨_, q⟩, e => StrLs.get (i := i) q (by simpa using e)
  | [], _ :: _, _, _, h, _ => h.elim
  | _ :: _, [], _, _, h, _ => h.elim
theorem StrLs.mem {H : Hp} : ∀ {as : List Addr} {xss : List (List Str)} {a : Addr}, StrLs H as xss → a ∈ as → ∃ o, H a = some o
  | a :: as, _ :: _, b, ⟨h, r⟩, m => (List.mem_cons.mp m).elim (fun e => e ▸ ⟨_, h⟩) fun m => StrLs.mem r m
  | [], _, _, _, m => nomatch m
  | _ :: _, [], _, h, _ => h.elim
/-- a kind -/
structure KD where
  nm : Str
  one : Bool
  ss : List Str
  st : List Pr
  ng : List (List Str × List Str)
structure KdOk (k : KD) : Prop where
  s0 : 0 < k.ss.length
  s5 : k.ss.length ≤ 5
  sn : ∀ i s, k.ss[i]? = some s → NameK i s
  st : ∀ p ∈ k.st, p.1 ∈ k.ss ∧ p.2 ∈ k.ss ∧ p.1 ≠ p.2
  stl : k.st.length ≤ 25
  ln : k.ng.length = k.ss.length
  ng : ∀ q ∈ k.ng, q.1.Nodup ∧ q.2.Nodup ∧ q.1.length ≤ 8 ∧ q.2.length ≤ 8
  dn : ∀ q ∈ k.ng, (∀ d ∈ q.1, ∃ j, j < 12 ∧ NameK j d) ∧ ∀ d ∈ q.2, ∃ j, j < 12 ∧ NameK j d
/-- a kind as it is drawn gives few doors -/
def Sm (k : KD) : Prop := ∀ q ∈ k.ng, q.1.length ≤ 5 ∧ q.2.length ≤ 5
theorem KdOk.nd {k : KD} (h : KdOk k) : k.ss.Nodup := name_nodup h.sn
theorem KdOk.sl {k : KD} (h : KdOk k) : ∀ s ∈ k.ss, s.length ≤ 100 := fun s hs => by
  obtain ⟨j, hj⟩ := List.mem_iff_getElem?.mp hs
  exact Nat.le_trans (h.sn j s hj).1 (by omega)
/-- where a kind stands: its list, the lists of standings, steps, needs and given doors -/
structure KA where
  u : Addr
  l : Addr
  q : Addr
  n : Addr
  g : Addr
  ns : List Addr
  gs : List Addr
def KA.fp (a : KA) : List Addr := a.u :: a.l :: a.q :: a.n :: a.g :: (a.ns ++ a.gs)
structure KdAt (H : Hp) (a : KA) (k : KD) : Prop where
  hu : H a.u = some (.lst [.str k.nm, .bl k.one, .ref a.l, .ref a.q, .ref a.n, .ref a.g])
  hl : H a.l = some (.lst (k.ss.map V.str))
  hq : ∃ xs, H a.q = some (.lst xs) ∧ PairsAt H xs k.st
  hn : H a.n = some (.lst (a.ns.map V.ref))
  hns : StrLs H a.ns (k.ng.map (·.1))
  hg : H a.g = some (.lst (a.gs.map V.ref))
  hgs : StrLs H a.gs (k.ng.map (·.2))
  nd : a.fp.Nodup
theorem KdAt.keep {H H' : Hp} {a : KA} {k : KD} (h : KdAt H a k) (s : Same H H') : KdAt H' a k :=
  ⟨s _ _ h.hu, s _ _ h.hl, (let ⟨xs, e, p⟩ := h.hq; ⟨xs, s _ _ e, p.keep fun t ys e => s _ _ e⟩), s _ _ h.hn, h.hns.keep s, s _ _ h.hg, h.hgs.keep s, h.nd⟩
theorem KdAt.tracked {H : Hp} {a : KA} {k : KD} (h : KdAt H a k) : ∀ x ∈ a.fp, ∃ o, H x = some o := fun x hx => by
  unfold KA.fp at hx
  simp only [List.mem_cons, List.mem_append] at hx
  rcases hx with rfl | rfl | rfl | rfl | rfl | hx | hx
  · exact ⟨_, h.hu⟩
  · exact ⟨_, h.hl⟩
  · exact ⟨_, h.hq.choose_spec.1⟩
  · exact ⟨_, h.hn⟩
  · exact ⟨_, h.hg⟩
  · exact h.hns.mem hx
  · exact h.hgs.mem hx
theorem StrLs.on {H H' : Hp} : ∀ {as : List Addr} {xss : List (List Str)}, StrLs H as xss → (∀ x ∈ as, ∀ o, H x = some o → H' x = some o) → StrLs H' as xss
  | [], [], _, _ => True.intro
  | _ :: _, _ :: _, ⟨h, r⟩, s => ⟨s _ (List.mem_cons_self ..) _ h, StrLs.on r fun x hx => s x (List.mem_cons_of_mem _ hx)⟩
  | [], _ :: _, h, _ => h.elim
  | _ :: _, [], h, _ => h.elim
/-- what is kept where the kind stands -/
theorem KdAt.on {H H' : Hp} {a : KA} {k : KD} (h : KdAt H a k) (s : ∀ x ∈ a.fp, ∀ o, H x = some o → H' x = some o) (tk : ∀ b xs, H b = some (.tup xs) → H' b = some (.tup xs)) : KdAt H' a k := by
  unfold KA.fp at s
  refine ⟨s _ (by simp) _ h.hu, s _ (by simp) _ h.hl, ?_, s _ (by simp) _ h.hn, h.hns.on fun x hx => s x (by simp [hx]), s _ (by simp) _ h.hg, h.hgs.on fun x hx => s x (by simp [hx]), h.nd⟩
  obtain ⟨xs, e, p⟩ := h.hq
  exact ⟨xs, s _ (by simp) _ e, p.keep tk⟩
/-- kinds, each at a place of its own -/
def KdsAt (H : Hp) : List KA → List KD → Prop
  | [], [] => True
  | a :: as, k :: ks => KdAt H a k ∧ (∀ x ∈ a.fp, ∀ b ∈ as, x ∉ b.fp) ∧ KdsAt H as ks
  | _, _ => False
theorem KdsAt.keep {H H' : Hp} (s : Same H H') : ∀ {as : List KA} {ks : List KD}, KdsAt H as ks → KdsAt H' as ks
  | [], [], _ => True.intro
  | _ :: _, _ :: _, ⟨h, d, r⟩ => ⟨h.keep s, d, KdsAt.keep s r⟩
  | [], _ :: _, h => h.elim
  | _ :: _, [], h => h.elim
theorem KdsAt.len {H : Hp} : ∀ {as : List KA} {ks : List KD}, KdsAt H as ks → as.length = ks.length
  | [], [], _ => rfl
  | _ :: _, _ :: _, ⟨_, _, r⟩ => by rw [List.length_cons, List.length_cons, KdsAt.len r]
  | [], _ :: _, h => h.elim
  | _ :: _, [], h => h.elim
theorem KdsAt.tracked {H : Hp} : ∀ {as : List KA} {ks : List KD}, KdsAt H as ks → ∀ b ∈ as, ∀ x ∈ b.fp, ∃ o, H x = some o
  | [], [], _, _, m => nomatch m
  | a :: as, k :: ks, ⟨h, _, r⟩, b, m => (List.mem_cons.mp m).elim (fun e => by subst e; exact h.tracked) fun m => KdsAt.tracked r b m
  | [], _ :: _, h, _, _ => h.elim
  | _ :: _, [], h, _, _ => h.elim
theorem KdsAt.snoc {H : Hp} {a : KA} {k : KD} (e : KdAt H a k) : ∀ {as : List KA} {ks : List KD}, KdsAt H as ks → (∀ b ∈ as, ∀ x ∈ b.fp, x ∉ a.fp) → KdsAt H (as ++ [a]) (ks ++ [k])
  | [], [], _, _ => ⟨e, fun _ _ _ m => (nomatch m), True.intro⟩
  | b :: as, _ :: _, ⟨h, d, r⟩, n => ⟨h, fun x hx c hc => (List.mem_append.mp hc).elim (fun m => d x hx c m) fun m => by rw [List.mem_singleton.mp m]; exact n b (List.mem_cons_self ..) x hx, KdsAt.snoc e r fun c hc => n c (List.mem_cons_of_mem _ hc)⟩
  | [], _ :: _, h, _ => h.elim
  | _ :: _, [], h, _ => h.elim
theorem KdsAt.get {H : Hp} : ∀ {as : List KA} {ks : List KD} {i : Nat} {k : KD}, KdsAt H as ks → ks[i]? = some k → ∃ a, as[i]? = some a ∧ KdAt H a k
  | [], [], _, _, _, h => by simp at h
  | a :: _, _ :: _, 0, k, ⟨h, _, _⟩, e => ⟨a, rfl, by rw [← Option.some.inj e]; exact h⟩
  | _ :: _, _ :: _, i + 1, k, ⟨_, _, q⟩, e => KdsAt.get (i := i) q (by simpa using e)
  | [], _ :: _, _, _, h, _ => h.elim
  | _ :: _, [], _, _, h, _ => h.elim
def spKind : Sp := fun vs H Q _ => ∃ (p c dl : Addr) (b : Str) (j : Nat) (one : Bool) (n : Nat) (os : List Str), vs = [.ref p, .str b, .int j, .bl one, .int n, .ref dl] ∧ Pool H p c ∧ b.length ≤ 11 ∧ Sgn b ∧ j < 11 ∧ 0 < n ∧ n ≤ 5 ∧
  H dl = some (.lst (os.map V.str)) ∧ dl ≠ p ∧ 0 < os.length ∧ os.length ≤ 5 ∧ (∀ i s, os[i]? = some s → NameK i s) ∧
  ∀ (a : KA) (k : KD) (H' : Hp), Gro p H H' → Pool H' p c → (∀ x ∈ a.fp, H x = none) → KdAt (off p H') a k → KdOk k → NameK j k.nm → k.one = one → (k.ss.length = n ∧ Sm k) → Q (.ref a.u) H'
def nKind : List Str := ["_law_pool_here", "_law_base_here", "_law_k", "_law_single", "_law_size", "_law_doors", "_law_j", "_law_standings", "_law_steps", "_law_i", "_law_needs", "_law_gives"]
theorem scKind : FnScope nKind ["_law_pool_here", "_law_base_here", "_law_k", "_law_single", "_law_size", "_law_doors"] (defScope sKind) := ⟨rfl, rfl, rfl, by decide +kernel, rfl, by decide +kernel, by decide +kernel⟩
theorem eight {v : Int} (h0 : 0 ≤ v) (h1 : v < 8) {a0 a1 a2 a3 a4 a5 a6 a7 : Nat} {m : Nat} (b0 : a0 ≤ m) (b1 : a1 ≤ m) (b2 : a2 ≤ m) (b3 : a3 ≤ m) (b4 : a4 ≤ m) (b5 : a5 ≤ m) (b6 : a6 ≤ m) (b7 : a7 ≤ m) :
    ∃ n : Nat, atI [V.int a0, V.int a1, V.int a2, V.int a3, V.int a4, V.int a5, V.int a6, V.int a7] v = some (.int (n : Int)) ∧ n ≤ m := by
  obtain ⟨j, rfl⟩ : ∃ j : Nat, v = (j : Int) := ⟨v.toNat, by omega⟩
  have hj : j < 8 := by omega
  match j, hj with
  | 0, _ => exact ⟨a0, at_c rfl rfl, b0⟩
  | 1, _ => exact ⟨a1, at_c rfl rfl, b1⟩
  | 2, _ => exact ⟨a2, at_c rfl rfl, b2⟩
  | 3, _ => exact ⟨a3, at_c rfl rfl, b3⟩
  | 4, _ => exact ⟨a4, at_c rfl rfl, b4⟩
  | 5, _ => exact ⟨a5, at_c rfl rfl, b5⟩
  | 6, _ => exact ⟨a6, at_c rfl rfl, b6⟩
  | 7, _ => exact ⟨a7, at_c rfl rfl, b7⟩
  | j + 8, h => omega
end Yd
namespace Yd
open PySem L2
/-! ### a kind is drawn -/
theorem off_same {D : Addr} {A B : Hp} (s : Same A B) : Same (off D A) (off D B) := fun b o e => by
  obtain ⟨n, e⟩ := off_is e
  rw [off_ne n]
  exact s b o e
theorem off_own {p D : Addr} {H : Hp} {o : HO} : Same (off D (off p H)) (off D (off p (upd H D o))) := fun b u e => by
  obtain ⟨n, e⟩ := off_is e
  obtain ⟨m, e⟩ := off_is e
  rw [off_ne n, off_ne m, upd_ne n]
  exact e
theorem Gro.offs {p : Addr} {H H' : Hp} (g : Gro p H H') {b : Addr} {o : HO} (e : H b = some o) (n : b ≠ p) : H' b = some o := g b o e n
/-- names that are drawn one after the other -/
def NamL (p c D : Addr) (H5 : Hp) (i : Nat) (H' : Hp) : Prop := Gro p H5 H' ∧ Pool H' p c ∧ ∃ ys : List Str, H' D = some (.lst (ys.map V.str)) ∧ ys.length = i ∧ ∀ j s, ys[j]? = some s → NameK j s
theorem names_next {p c D : Addr} {b : Str} {H5 : Hp} {m i : Nat} {H' : Hp} (hm : m ≤ 12) (nDp : D ≠ p) (nDc : D ≠ c) (hb : b.length ≤ 11) (hsb : Sgn b) (hi : i < m) (inv : NamL p c D H5 i H') (hD : H5 D = none) :
    spName [.ref p, .str b, .int (0 + (i : Int))] H' (fun y H4 => ∃ acc, H4 D = some (.lst acc) ∧ acc.length < sizeLine ∧ NamL p c D H5 (i + 1) (upd H4 D (.lst (acc ++ [y])))) E0 := by
  obtain ⟨g6, P6, ys, hys, hyl, hnm⟩ := inv
  refine ⟨p, c, b, i, by rw [show (0 : Int) + (i : Int) = (i : Int) by omega], P6, by omega, hsb, by omega, fun z H7 hz g7 P7 => ?_⟩
  refine ⟨ys.map V.str, g7 D _ hys nDp, small1000 (by rw [List.length_map]; omega), fun bb o e ne => ?_, P7.off nDp nDc, ys ++ [z], by rw [upd_same, List.map_append]; rfl, by rw [List.length_append, hyl]; rfl, fun j s hj => ?_⟩
  · rw [upd_ne (ne_of_none e hD)]
    exact g7 _ _ (g6 _ _ e ne) ne
  · rcases Nat.lt_or_ge j ys.length with hlt | hge
    · rw [List.getElem?_append_left hlt] at hj
      exact hnm j s hj
    · rw [List.getElem?_append_right hge] at hj
      have h0 : j - ys.length = 0 := by
        have := (List.getElem?_eq_some_iff.mp hj).1
        simp at this
        omega
      rw [h0] at hj
      have ej : j = i := by omega
      subst ej
      cases Option.some.inj hj
      exact hz
theorem names_start {p c D : Addr} {H : Hp} (hP : Pool H p c) (hD : H D = none) : NamL p c D H 0 (upd H D (.lst [])) := ⟨.new hD, hP.new hD, [], upd_same, rfl, fun j s h => by simp at h⟩
/-- lists of doors that are drawn one after the other -/
def DrsL (p c D : Addr) (os : List Str) (Hs : Hp) (i : Nat) (H' : Hp) : Prop := Gro p Hs H' ∧ Pool H' p c ∧ ∃ (ns : List Addr) (xss : List (List Str)), H' D = some (.lst (ns.map V.ref)) ∧ StrLs (off D (off p H')) ns xss ∧ xss.length = i ∧ ns.Nodup ∧ (∀ x ∈ ns, Hs x = none) ∧ ∀ xs ∈ xss, xs.Nodup ∧ xs.length ≤ 5 ∧ ∀ d ∈ xs, d ∈ os
theorem doors_start {p c D : Addr} {os : List Str} {H : Hp} (hP : Pool H p c) (hD : H D = none) : DrsL p c D os H 0 (upd H D (.lst [])) := ⟨.new hD, hP.new hD, [], [], upd_same, True.intro, rfl, List.nodup_nil, fun _ h => (nomatch h), fun _ h => nomatch h⟩
theorem doors_next {p c D dl : Addr} {os : List Str} {Hs : Hp} {i : Nat} {H' H6 : Hp} {y : Nat} (hi : i < 100) (nDp : D ≠ p) (nDc : D ≠ c) (hD : Hs D = none) (hdl : Hs dl = some (.lst (os.map V.str))) (ndp : dl ≠ p) (o0 : 0 < os.length) (o5 : os.length ≤ 5) (hy : y ≤ 5)
    (inv : DrsL p c D os Hs i H') (g : Gro p H' H6) (P6 : Pool H6 p c) :
    spSome [.ref p, .ref dl, .int (y : Int)] H6 (fun v H4 => ∃ acc, H4 D = some (.lst acc) ∧ acc.length < sizeLine ∧ DrsL p c D os Hs (i + 1) (upd H4 D (.lst (acc ++ [v])))) E0 := by
  obtain ⟨g5, P5, ns, xss, e1, e2, e3, e4, e5, e6⟩ := inv
  have l6 := g _ _ (g5 _ _ hdl ndp) ndp
  refine ⟨p, c, dl, os, y, rfl, P6, l6, ndp, o0, by omega, hy, fun q xs H7 g7 P7 hq q7 nd sub len => ?_⟩
  have g67 := g.trans g7
  have eD := g67 _ _ e1 nDp
  have nlen : ns.length = i := by rw [e2.len, e3]
  have nqp : q ≠ p := (P6.ne hq).1
  have nqD : q ≠ D := (ne_of_none (g _ _ e1 nDp) hq).symm
  refine ⟨_, eD, small1000 (by rw [List.length_map]; omega), fun b o e ne => ?_, P7.off nDp nDc, ns ++ [q], xss ++ [xs], by rw [upd_same, List.map_append]; rfl, ?_, by rw [List.length_append, e3]; rfl, nd_snoc e4 fun m => ?_, fun x hx => ?_, fun z hz => ?_⟩
  · rw [upd_ne (ne_of_none e hD)]
    exact g67 _ _ (g5 _ _ e ne) ne
  · refine StrLs.snoc ?_ (e2.keep ((off_same (off_gro g67)).trans off_own))
    rw [off_ne nqD, off_ne nqp, upd_ne nqD]
    exact q7
  · obtain ⟨o, e⟩ := e2.mem m
    have e := (off_is (off_is e).2).2
    have ne := (off_is (off_is (e2.mem m).choose_spec).2).1
    rw [g _ _ e ne] at hq
    cases hq
  · rcases List.mem_append.mp hx with hx | hx
    · exact e5 x hx
    · rw [List.mem_singleton.mp hx]
      exact (g5.trans g).free hq nqp
  · rcases List.mem_append.mp hz with hz | hz
    · exact e6 z hz
    · rw [List.mem_singleton.mp hz]
      exact ⟨nd, len, sub⟩
theorem fp_nd {a : KA} (hu : ∀ x ∈ a.l :: a.q :: a.n :: a.g :: (a.ns ++ a.gs), a.u ≠ x) (hl : ∀ x ∈ a.q :: a.n :: a.g :: (a.ns ++ a.gs), a.l ≠ x) (hq : ∀ x ∈ a.n :: a.g :: (a.ns ++ a.gs), a.q ≠ x) (hn : ∀ x ∈ a.g :: (a.ns ++ a.gs), a.n ≠ x) (hg : ∀ x ∈ a.ns ++ a.gs, a.g ≠ x)
    (d1 : a.ns.Nodup) (d2 : a.gs.Nodup) (d3 : ∀ x ∈ a.ns, x ∉ a.gs) : a.fp.Nodup := by
  unfold KA.fp
  refine List.nodup_cons.mpr ⟨fun m => hu _ m rfl, List.nodup_cons.mpr ⟨fun m => hl _ m rfl, List.nodup_cons.mpr ⟨fun m => hq _ m rfl, List.nodup_cons.mpr ⟨fun m => hn _ m rfl, List.nodup_cons.mpr ⟨fun m => hg _ m rfl, ?_⟩⟩⟩⟩⟩
  rw [List.nodup_append]
  exact ⟨d1, d2, fun x hx y hy e => d3 x hx (by rw [e]; exact hy)⟩
section
variable {P : Program} {w : World} {K : PySem.W.Frag} {mg : Str → Option Value} {base : Heap}
theorem ok_kind {f fT fN fO : Addr} {fd dT dN dO : FuncData} (F : Fun K "_law_kind" "_law_kind" sKind f fd) (B : Blt mg) (TT : Fn K mg "_law_take" sTake ["_law_pool_here", "_law_size"] fT dT)
    (TN : Fn K mg "_law_name" sName ["_law_pool_here", "_law_base_here", "_law_k"] fN dN) (TO : Fn K mg "_law_some" sSome ["_law_pool_here", "_law_rows", "_law_most"] fO dO) :
    FnOk P w K mg base CX0 3 f fd ["_law_pool_here", "_law_base_here", "_law_k", "_law_single", "_law_size", "_law_doors"] spKind := by
  have GT : FnOk P w K mg base CX0 1 fT dT ["_law_pool_here", "_law_size"] spTake := ok_take TT.F B
  have GN : FnOk P w K mg base CX0 2 fN dN ["_law_pool_here", "_law_base_here", "_law_k"] spName := ok_name TN.F B TT
  have GO : FnOk P w K mg base CX0 2 fO dO ["_law_pool_here", "_law_rows", "_law_most"] spSome := ok_some TO.F B TT
  refine F.ok scKind (fun vs H Q E h => ?_) (fun cdv A outer s H vs Q E hr h => ?_)
  · obtain ⟨p, c, dl, b, j, one, n, os, rfl, _⟩ := h
    rfl
  · obtain ⟨p, c, dl, b, jj, one, n, os, rfl, hP, hb, hsb, hj, n0, n5, hdl, ndp, o0, o5, hos, k⟩ := h
    have r1 : Room 1 _ := hr.mono (by decide)
    have r2 : Room 2 _ := hr.mono (by decide)
    refine ⟨_, pss_cons (ps_setLc (i := 7) (own := [("_law_j", 6)]) (g := gName 6) (tt := tYes) rfl scKind.nd rfl rfl (sw_true rfl rfl rfl (by decide +kernel)) (pi_range1 rfl B.range (pa_cons (pv 4) pa_nil)) (blkOk_by (N := nKind) (sc := defScope sKind) (by decide +kernel))
          (fun _ _ _ _ _ => pg_name (i := 6) scKind.nd rfl (Or.inl rfl)) (fun _ _ _ _ _ => pts_nil)
          (fun _ _ _ _ _ => pe_call GN r2 rfl TN.g TN.F.kp TN.b .nil pass0 (pa_cons (pv 0) (pa_cons (pv 1) (pa_cons (pv 6) pa_nil)))))
      (pss_cons (ps_set (i := 8) scKind.nd rfl (Or.inl rfl) (pe_lst pa_nil))
      (pss_cons (ps_for PassesOwn.never rfl (pi_range1 rfl B.range (pa_cons (pv 4) pa_nil)) (pg_name (i := 6) scKind.nd rfl (Or.inl rfl))
        (pss_one (ps_for PassesOwn.never rfl (pi_range1 rfl B.range (pa_cons (pv 4) pa_nil)) (pg_name (i := 9) scKind.nd rfl (Or.inl rfl))
          (pss_one (ps_if (PW.pt (pw_and (pt_cmpR op_ne (pv 9) (pv 6) (nomark _)) (pw_and1 (pt_cmpR op_ne (pe_cmpR op_eq (pe_call GT r1 rfl TT.g TT.F.kp TT.b .nil pass0 (pa_cons (pv 0) (pa_cons pe_int pa_nil))) pe_int (nomark _)) (pe_cmpR op_eq (pv 9) (pe_op op_add (pv 6) pe_int) (nomark _)) (nomark _)))))
            (pss_one (ps_expr (pe_bm PySem.F.plainAttrs_list PySem.F.slot_list_append PySem.F.type_list_append mt_append (pv 8) (pa_cons (pe_tup (pa_cons (pe_ix ix_list (pv 7) (pv 6) (fun _ _ => rfl)) (pa_cons (pe_ix ix_list (pv 7) (pv 9) (fun _ _ => rfl)) pa_nil))) pa_nil)))) pss_nil)))))
      (pss_cons (ps_setLc (i := 10) (own := [("_law_j", 6)]) (g := gName 6) (tt := tYes) rfl scKind.nd rfl rfl (sw_true rfl rfl rfl (by decide +kernel)) (pi_range1 rfl B.range (pa_cons (pv 4) pa_nil)) (blkOk_by (N := nKind) (sc := defScope sKind) (by decide +kernel))
          (fun _ _ _ _ _ => pg_name (i := 6) scKind.nd rfl (Or.inl rfl)) (fun _ _ _ _ _ => pts_nil)
          (fun _ _ _ _ _ => pe_call GO r2 rfl TO.g TO.F.kp TO.b .nil pass0 (pa_cons (pv 0) (pa_cons (pv 5) (pa_cons (pe_ix (r := rIxL K) ix_list (pe_lst (pa_cons pe_int (pa_cons pe_int (pa_cons pe_int (pa_cons pe_int (pa_cons pe_int (pa_cons pe_int (pa_cons pe_int (pa_cons pe_int pa_nil)))))))))
            (pe_call GT r1 rfl TT.g TT.F.kp TT.b .nil pass0 (pa_cons (pv 0) (pa_cons pe_int pa_nil))) (fun _ _ => rfl)) pa_nil)))))
      (pss_cons (ps_setLc (i := 11) (own := [("_law_j", 6)]) (g := gName 6) (tt := tYes) rfl scKind.nd rfl rfl (sw_true rfl rfl rfl (by decide +kernel)) (pi_range1 rfl B.range (pa_cons (pv 4) pa_nil)) (blkOk_by (N := nKind) (sc := defScope sKind) (by decide +kernel))
          (fun _ _ _ _ _ => pg_name (i := 6) scKind.nd rfl (Or.inl rfl)) (fun _ _ _ _ _ => pts_nil)
          (fun _ _ _ _ _ => pe_call GO r2 rfl TO.g TO.F.kp TO.b .nil pass0 (pa_cons (pv 0) (pa_cons (pv 5) (pa_cons (pe_ix (r := rIxL K) ix_list (pe_lst (pa_cons pe_int (pa_cons pe_int (pa_cons pe_int (pa_cons pe_int (pa_cons pe_int (pa_cons pe_int (pa_cons pe_int (pa_cons pe_int pa_nil)))))))))
            (pe_call GT r1 rfl TT.g TT.F.kp TT.b .nil pass0 (pa_cons (pv 0) (pa_cons pe_int pa_nil))) (fun _ _ => rfl)) pa_nil)))))
      (pss_one (ps_ret (pe_lst (pa_cons (pe_call GN r2 rfl TN.g TN.F.kp TN.b .nil pass0 (pa_cons (pv 0) (pa_cons (pv 1) (pa_cons (pv 2) pa_nil)))) (pa_cons (pv 3) (pa_cons (pv 7) (pa_cons (pv 8) (pa_cons (pv 10) (pa_cons (pv 11) pa_nil))))))))))))), ?_⟩
    refine ⟨_, rfl, _, rfl, by omega, by omega, fun sl hsl0 => ?_⟩
    obtain ⟨nsp, nsc⟩ := hP.ne hsl0
    refine lc_range (lo := 0) (n := ((n : Int)).toNat) (NamL p c sl H) (names_start hP hsl0) (fun i H' hi inv => ⟨rfl, _, rfl, _, rfl, _, rfl, names_next (m := 5) (by omega) nsp nsc hb hsb (by omega) inv hsl0⟩) ?_
    rintro H1 ⟨g1, P1, ss, hss, hsl, hsn⟩
    have sl_ : ss.length = n := by omega
    -- the steps
    refine ⟨(by show 0 ≤ sizeLine; omega), fun D hD => ?_⟩
    obtain ⟨nDp, nDc⟩ := P1.ne hD
    have dl1 := g1 _ _ hdl ndp
    have D0 : Same H1 (upd H1 D (.lst [])) := same_new hD
    have sln := ne_of_none hss hD
    refine ⟨_, rfl, _, rfl, by omega, by omega, for_range (lo := 0) (n := ((n : Int)).toNat)
      (fun i σ H' => Gro p H1 H' ∧ Pool H' p c ∧ ∃ (xs : List V) (ps : List Pr) (v6 v9 : Option V), H' D = some (.lst xs) ∧ PairsAt H' xs ps ∧ ps.length ≤ i * 5 ∧ (∀ q ∈ ps, q.1 ∈ ss ∧ q.2 ∈ ss ∧ q.1 ≠ q.2) ∧
        σ = [some (.ref p), some (.str b), some (.int (jj : Int)), some (.bl one), some (.int (n : Int)), some (.ref dl), v6, some (.ref sl), some (.ref D), v9, none, none])
      ⟨.of_same D0, P1.new hD, [], [], _, _, upd_same, True.intro, Nat.zero_le _, fun _ h => (nomatch h), rfl⟩ ?_ ?_⟩
    · rintro i σ H' hi ⟨g2, P2, xs, ps, v6, v9, eD, pa, pl, pok, rfl⟩
      obtain ⟨si, hsi⟩ : ∃ si, ss[i]? = some si := ⟨_, List.getElem?_eq_getElem (by omega)⟩
      refine ⟨_, rfl, _, rfl, by omega, by omega, for_range (lo := 0) (n := ((n : Int)).toNat)
        (fun j σ H' => Gro p H1 H' ∧ Pool H' p c ∧ ∃ (xs : List V) (ps : List Pr) (v9 : Option V), H' D = some (.lst xs) ∧ PairsAt H' xs ps ∧ ps.length ≤ i * 5 + j ∧ (∀ q ∈ ps, q.1 ∈ ss ∧ q.2 ∈ ss ∧ q.1 ≠ q.2) ∧
          σ = [some (.ref p), some (.str b), some (.int (jj : Int)), some (.bl one), some (.int (n : Int)), some (.ref dl), some (.int (0 + (i : Int))), some (.ref sl), some (.ref D), v9, none, none])
        ⟨g2, P2, xs, ps, _, eD, pa, by omega, pok, rfl⟩ ?_ ?_⟩
      · rintro j σ H' hj' ⟨g2, P2, xs, ps, v9, eD, pa, pl, pok, rfl⟩
        obtain ⟨sj, hsj⟩ : ∃ sj, ss[j]? = some sj := ⟨_, List.getElem?_eq_getElem (by omega)⟩
        refine ⟨_, rfl, _, rfl, rfl, _, rfl, ?_⟩
        have stay : ∀ H3, Gro p H' H3 → Pool H3 p c → Gro p H1 H3 ∧ Pool H3 p c ∧ ∃ (xs : List V) (ps : List Pr) (v9' : Option V), H3 D = some (.lst xs) ∧ PairsAt H3 xs ps ∧ ps.length ≤ i * 5 + (j + 1) ∧ (∀ q ∈ ps, q.1 ∈ ss ∧ q.2 ∈ ss ∧ q.1 ≠ q.2) ∧
            [some (V.ref p), some (.str b), some (.int (jj : Int)), some (.bl one), some (.int (n : Int)), some (.ref dl), some (.int (0 + (i : Int))), some (.ref sl), some (.ref D), some (.int (0 + (j : Int))), none, none] = [some (.ref p), some (.str b), some (.int (jj : Int)), some (.bl one), some (.int (n : Int)), some (.ref dl), some (.int (0 + (i : Int))), some (.ref sl), some (.ref D), v9', none, none] :=
          fun H3 g3 P3 => ⟨g2.trans g3, P3, xs, ps, _, g3 _ _ eD nDp, pa.keep fun t ys e => P2.noL g3 _ _ e (fun xs e => by cases e), by omega, pok, rfl⟩
        refine ite2 (fun hne => ?_) (fun _ => iteF (stay _ .rfl' P2))
        refine ⟨_, rfl, p, c, 4, rfl, P2, by decide, by decide, fun v H3 v0 v1 g3 P3 => ?_⟩
        refine ⟨rfl, _, rfl, _, rfl, _, _, rfl, rfl, rfl, rfl, _, rfl, ?_⟩
        refine ite2 (fun _ => ?_) (fun _ => stay _ g3 P3)
        obtain ⟨_, _, _, _, _, eD3, pa3, _, _, _⟩ := stay _ g3 P3
        have l3 := g3 _ _ (g2 _ _ hss nsp) nsp
        have nsi : si ≠ sj := fun e => by
          have z := nd_ix (name_nodup hsn) hsi (by rw [e]; exact hsj)
          subst z
          simp at hne
        refine ⟨_, rfl, .inl ⟨rfl, _, SqL.of (g3 _ _ eD nDp)⟩, _, rfl, _, rfl, sl, _, _, _, rfl, rfl, SqL.of l3, at_s hsi (by omega), _, rfl, _, rfl, sl, _, _, _, rfl, rfl, SqL.of l3, at_s hsj (by omega), (by show 2 ≤ sizeLine; decide), fun t ht => ?_⟩
        have e3 := g3 _ _ eD nDp
        have pa' : PairsAt H3 xs ps := pa.keep fun t ys e => P2.noL g3 _ _ e (fun xs e => by cases e)
        have ntD : t ≠ D := fun z => by rw [z, e3] at ht; cases ht
        have tup : ∀ b ys, H3 b = some (.tup ys) → upd (upd H3 t (.tup [.str si, .str sj])) D (.lst (xs ++ [.ref t])) b = some (.tup ys) := fun b ys e => by
          rw [upd_ne (ne_of e e3 (fun z => nomatch z)), upd_ne (ne_of_none e ht)]
          exact e
        refine ⟨D, _, _, rfl, rfl, by rw [upd_ne ntD.symm]; exact e3, small1000 (by rw [pa.len]; omega), ?_, ?_, xs ++ [.ref t], ps ++ [(si, sj)], _, upd_same, ?_, by rw [List.length_append]; show ps.length + 1 ≤ _; omega, fun q hq => ?_, rfl⟩
        · intro b o e ne
          have e' := (g2.trans g3) _ _ e ne
          rw [upd_ne (ne_of_none e hD), upd_ne (ne_of_none e' ht)]
          exact e'
        · exact (P3.new ht).off nDp nDc
        · exact PairsAt.snoc (by rw [upd_ne ntD]; exact upd_same) (pa'.keep tup)
        · rcases List.mem_append.mp hq with hq | hq
          · exact pok q hq
          · rw [List.mem_singleton.mp hq]
            exact ⟨List.mem_of_getElem? hsi, List.mem_of_getElem? hsj, nsi⟩
      · rintro σ H' ⟨g2, P2, xs, ps, v9, eD, pa, pl, pok, rfl⟩
        exact ⟨g2, P2, xs, ps, _, _, eD, pa, by omega, pok, rfl⟩
    · rintro σ H2 ⟨g2, P2, xs, ps, v6, v9, eD, pa, pl, pok, rfl⟩
      have dl2 := g2 _ _ dl1 ndp
      have ss2 := g2 _ _ hss nsp
      -- the needs
      refine ⟨_, rfl, _, rfl, by omega, by omega, fun D3 hD3 => ?_⟩
      obtain ⟨n3p, n3c⟩ := P2.ne hD3
      refine lc_range (lo := 0) (n := ((n : Int)).toNat) (DrsL p c D3 os H2) (doors_start P2 hD3) (fun i H' hi inv => ?_) ?_
      · refine ⟨rfl, _, rfl, _, rfl, (by show 8 ≤ sizeLine; decide), fun t8 ht8 => ⟨_, rfl, p, c, 8, rfl, inv.2.1.new ht8, by decide, by decide, fun v H6 v0 v1 g6 P6 => ?_⟩⟩
        obtain ⟨y, hy, hy5⟩ := eight (a0 := 1) (a1 := 0) (a2 := 0) (a3 := 1) (a4 := 1) (a5 := 2) (a6 := 2) (a7 := 4) (m := 5) v0 v1 (by omega) (by omega) (by omega) (by omega) (by omega) (by omega) (by omega) (by omega)
        refine ⟨t8, _, _, _, rfl, rfl, SqL.of (g6 _ _ upd_same (inv.2.1.ne ht8).1), hy, ?_⟩
        exact doors_next (by omega) n3p n3c hD3 dl2 ndp o0 o5 hy5 inv (Gro.trans (.new ht8) g6) P6
      rintro H3 ⟨g3, P3, ns, xss, eN, hns, xl, nnd, nfr, nok⟩
      -- the given doors
      refine ⟨_, rfl, _, rfl, by omega, by omega, fun D4 hD4 => ?_⟩
      obtain ⟨n4p, n4c⟩ := P3.ne hD4
      refine lc_range (lo := 0) (n := ((n : Int)).toNat) (DrsL p c D4 os H3) (doors_start P3 hD4) (fun i H' hi inv => ?_) ?_
      · refine ⟨rfl, _, rfl, _, rfl, (by show 8 ≤ sizeLine; decide), fun t8 ht8 => ⟨_, rfl, p, c, 8, rfl, inv.2.1.new ht8, by decide, by decide, fun v H6 v0 v1 g6 P6 => ?_⟩⟩
        obtain ⟨y, hy, hy5⟩ := eight (a0 := 1) (a1 := 0) (a2 := 1) (a3 := 1) (a4 := 2) (a5 := 2) (a6 := 3) (a7 := 5) (m := 5) v0 v1 (by omega) (by omega) (by omega) (by omega) (by omega) (by omega) (by omega) (by omega)
        refine ⟨t8, _, _, _, rfl, rfl, SqL.of (g6 _ _ upd_same (inv.2.1.ne ht8).1), hy, ?_⟩
        exact doors_next (by omega) n4p n4c hD4 (g3 _ _ dl2 ndp) ndp o0 o5 hy5 inv (Gro.trans (.new ht8) g6) P6
      rintro H4 ⟨g4, P4, gs, yss, eG, hgs, yl, gnd, gfr, gok⟩
      -- the name
      refine ⟨_, rfl, _, rfl, _, rfl, p, c, b, jj, rfl, P4, hb, hsb, by omega, fun z H5 hz g5 P5 => ⟨_, rfl, _, rfl, _, rfl, _, rfl, _, rfl, (by show 6 ≤ sizeLine; decide), fun u hu => ?_⟩⟩
      have sU : Same H5 (upd H5 u (.lst [.str z, .bl one, .ref sl, .ref D, .ref D3, .ref D4])) := same_new hu
      have nup : u ≠ p := (P5.ne hu).1
      have g45 : Gro p H4 (upd H5 u (.lst [.str z, .bl one, .ref sl, .ref D, .ref D3, .ref D4])) := g5.trans (.of_same sU)
      have g35 := g4.trans g45
      have g25 := g3.trans g35
      have g15 := g2.trans g25
      have x_l : H5 sl = _ := g5 _ _ (g4 _ _ (g3 _ _ ss2 nsp) nsp) nsp
      have x_q : H5 D = _ := g5 _ _ (g4 _ _ (g3 _ _ eD nDp) nDp) nDp
      have x_n : H5 D3 = _ := g5 _ _ (g4 _ _ eN n3p) n3p
      have x_g : H5 D4 = _ := g5 _ _ eG n4p
      have nsA : ∀ x ∈ ns, x ≠ p ∧ x ≠ D3 ∧ ∃ o, H3 x = some o := fun x hx => by
        obtain ⟨o, e⟩ := hns.mem hx
        exact ⟨(off_is (off_is e).2).1, (off_is e).1, o, (off_is (off_is e).2).2⟩
      have gsA : ∀ x ∈ gs, x ≠ p ∧ x ≠ D4 ∧ ∃ o, H4 x = some o := fun x hx => by
        obtain ⟨o, e⟩ := hgs.mem hx
        exact ⟨(off_is (off_is e).2).1, (off_is e).1, o, (off_is (off_is e).2).2⟩
      have ns5 : ∀ x ∈ ns, ∃ o, H5 x = some o := fun x hx => by
        obtain ⟨a, _, o, e⟩ := nsA x hx
        exact ⟨o, g5 _ _ (g4 _ _ e a) a⟩
      have gs5 : ∀ x ∈ gs, ∃ o, H5 x = some o := fun x hx => by
        obtain ⟨a, _, o, e⟩ := gsA x hx
        exact ⟨o, g5 _ _ e a⟩
      have back1 : ∀ x, x ≠ p → H1 x = none → H x = none := fun x a e => g1.free e a
      have back2 : ∀ x, x ≠ p → H2 x = none → H x = none := fun x a e => back1 x a (g2.free e a)
      have back3 : ∀ x, x ≠ p → H3 x = none → H x = none := fun x a e => back2 x a (g3.free e a)
      have pl25 : ps.length ≤ 25 := by omega
      refine k ⟨u, sl, D, D3, D4, ns, gs⟩ ⟨z, one, ss, ps, xss.zip yss⟩ _ (g1.trans g15) (P5.new hu) (fun x hx => ?_) ⟨?_, ?_, ?_, ?_, ?_, ?_, ?_, ?_⟩ ⟨by show 0 < ss.length; omega, by show ss.length ≤ 5; omega, hsn, pok, pl25, ?_, ?_, ?_⟩ hz rfl ⟨sl_, ?_⟩
      · unfold KA.fp at hx
        simp only [List.mem_cons, List.mem_append] at hx
        rcases hx with rfl | rfl | rfl | rfl | rfl | hx | hx
        · exact back3 _ nup (g4.free (g5.free hu nup) nup)
        · exact hsl0
        · exact back1 _ nDp hD
        · exact back2 _ n3p hD3
        · exact back3 _ n4p hD4
        · exact back2 _ (nsA x hx).1 (nfr x hx)
        · exact back3 _ (gsA x hx).1 (gfr x hx)
      · exact off_at upd_same nup
      · exact off_at (sU _ _ x_l) nsp
      · obtain ⟨ys0, hp0, _⟩ := P2
        exact ⟨xs, off_at (sU _ _ x_q) nDp, pa.keep fun t ys e => off_at (g25 _ _ e (ne_of e hp0 (fun z => nomatch z))) (ne_of e hp0 (fun z => nomatch z))⟩
      · exact off_at (sU _ _ x_n) n3p
      · show StrLs _ ns ((xss.zip yss).map Prod.fst)
        rw [List.map_fst_zip (by omega)]
        exact (hns.keep off_sub).keep (off_gro g35)
      · exact off_at (sU _ _ x_g) n4p
      · show StrLs _ gs ((xss.zip yss).map Prod.snd)
        rw [List.map_snd_zip (by omega)]
        exact (hgs.keep off_sub).keep (off_gro g45)
      · have ue : ∀ x, (∃ o, H5 x = some o) → u ≠ x := fun x ⟨o, e⟩ => (ne_of_none e hu).symm
        have le : ∀ {A : Hp} {x y : Addr}, (∃ o, A x = some o) → A y = none → x ≠ y := fun {A x y} ⟨o, e⟩ n => ne_of_none e n
        refine fp_nd (fun x hx => ?_) (fun x hx => ?_) (fun x hx => ?_) (fun x hx => ?_) (fun x hx => ?_) nnd gnd fun x hx hy => ?_
        · simp only [List.mem_cons, List.mem_append] at hx
          rcases hx with rfl | rfl | rfl | rfl | hx | hx
          · exact ue _ ⟨_, x_l⟩
          · exact ue _ ⟨_, x_q⟩
          · exact ue _ ⟨_, x_n⟩
          · exact ue _ ⟨_, x_g⟩
          · exact ue _ (ns5 x hx)
          · exact ue _ (gs5 x hx)
        · simp only [List.mem_cons, List.mem_append] at hx
          rcases hx with rfl | rfl | rfl | hx | hx
          · exact sln
          · exact le ⟨_, ss2⟩ hD3
          · exact le ⟨_, g3 _ _ ss2 nsp⟩ hD4
          · exact le ⟨_, ss2⟩ (nfr x hx)
          · exact le ⟨_, g3 _ _ ss2 nsp⟩ (gfr x hx)
        · simp only [List.mem_cons, List.mem_append] at hx
          rcases hx with rfl | rfl | hx | hx
          · exact le ⟨_, eD⟩ hD3
          · exact le ⟨_, g3 _ _ eD nDp⟩ hD4
          · exact le ⟨_, eD⟩ (nfr x hx)
          · exact le ⟨_, g3 _ _ eD nDp⟩ (gfr x hx)
        · simp only [List.mem_cons, List.mem_append] at hx
          rcases hx with rfl | hx | hx
          · exact le ⟨_, eN⟩ hD4
          · exact fun e => (nsA x hx).2.1 e.symm
          · exact le ⟨_, eN⟩ (gfr x hx)
        · rcases List.mem_append.mp hx with hx | hx
          · exact fun e => absurd (nsA x hx).2.2 (fun ⟨o, q⟩ => by rw [← e] at q; have z : H3 D4 = none := hD4; rw [q] at z; cases z)
          · exact fun e => (gsA x hx).2.1 e.symm
        · obtain ⟨o, q⟩ := (nsA x hx).2.2
          have z := gfr x hy
          rw [q] at z
          cases z
      · show (xss.zip yss).length = ss.length
        rw [List.length_zip]
        omega
      · rintro ⟨q1, q2⟩ hq
        have m := List.of_mem_zip hq
        obtain ⟨a1, a2, _⟩ := nok q1 m.1
        obtain ⟨b1, b2, _⟩ := gok q2 m.2
        exact ⟨a1, b1, Nat.le_trans a2 (by decide), Nat.le_trans b2 (by decide)⟩
      · rintro ⟨q1, q2⟩ hq
        have m := List.of_mem_zip hq
        have dn : ∀ d ∈ os, ∃ j, j < 12 ∧ NameK j d := fun d hd => by
          obtain ⟨j, hj⟩ := List.mem_iff_getElem?.mp hd
          exact ⟨j, by have := (List.getElem?_eq_some_iff.mp hj).1; omega, hos j d hj⟩
        exact ⟨fun d hd => dn d ((nok q1 m.1).2.2 d hd), fun d hd => dn d ((gok q2 m.2).2.2 d hd)⟩
      · rintro ⟨q1, q2⟩ hq
        have m := List.of_mem_zip hq
        exact ⟨(nok q1 m.1).2.1, (gok q2 m.2).2.1⟩
end
end Yd
namespace Yd
open PySem L2
/-! ### the kinds are drawn -/
theorem eightP {Q : Nat → Prop} {v : Int} (h0 : 0 ≤ v) (h1 : v < 8) {a0 a1 a2 a3 a4 a5 a6 a7 : Nat} (b0 : Q a0) (b1 : Q a1) (b2 : Q a2) (b3 : Q a3) (b4 : Q a4) (b5 : Q a5) (b6 : Q a6) (b7 : Q a7) :
    ∃ n : Nat, atI [V.int a0, V.int a1, V.int a2, V.int a3, V.int a4, V.int a5, V.int a6, V.int a7] v = some (.int (n : Int)) ∧ Q n := by
  obtain ⟨j, rfl⟩ : ∃ j : Nat, v = (j : Int) := ⟨v.toNat, by omega⟩
  have hj : j < 8 := by omega
  match j, hj with
  | 0, _ => exact ⟨a0, at_c rfl rfl, b0⟩
  | 1, _ => exact ⟨a1, at_c rfl rfl, b1⟩
  | 2, _ => exact ⟨a2, at_c rfl rfl, b2⟩
  | 3, _ => exact ⟨a3, at_c rfl rfl, b3⟩
  | 4, _ => exact ⟨a4, at_c rfl rfl, b4⟩
  | 5, _ => exact ⟨a5, at_c rfl rfl, b5⟩
  | 6, _ => exact ⟨a6, at_c rfl rfl, b6⟩
  | 7, _ => exact ⟨a7, at_c rfl rfl, b7⟩
  | j + 8, h => omega
theorem min2_int (a b : Int) : ∃ m : Int, nuMin2 (.int a) (.int b) = some (.int m) ∧ m ≤ a ∧ m ≤ b ∧ (m = a ∨ m = b) := by
  unfold nuMin2 nuLt nuCB
  by_cases h : b < a
  · exact ⟨b, by simp [h], by omega, by omega, .inr rfl⟩
  · exact ⟨a, by simp [h], by omega, by omega, .inl rfl⟩
theorem min3_int (a b c : Int) : ∃ m : Int, nuMin3 (.int a) (.int b) (.int c) = some (.int m) ∧ m ≤ a ∧ m ≤ b ∧ m ≤ c ∧ (m = a ∨ m = b ∨ m = c) := by
  obtain ⟨x, e1, h1, h2, h3⟩ := min2_int a b
  obtain ⟨y, e2, g1, g2, g3⟩ := min2_int x c
  refine ⟨y, ?_, by omega, by omega, by omega, by omega⟩
  unfold nuMin3
  rw [e1]
  exact e2
def spotsN (ks : List KD) : Nat := ((ks.filter fun k => !k.one).map fun k => k.ss.length).sum
/-- what holds of all kinds of a script -/
structure KdsOk (ks : List KD) : Prop where
  ok : ∀ k ∈ ks, KdOk k
  nm : ∀ i k, ks[i]? = some k → NameK i k.nm
theorem KdsOk.names {ks : List KD} (h : KdsOk ks) : (ks.map (·.nm)).Nodup := name_nodup fun i s e => by
  rw [List.getElem?_map] at e
  obtain ⟨k, hk, rfl⟩ := Option.map_eq_some_iff.mp e
  exact h.nm i k hk
def refsK (as : List KA) : List V := as.map fun a => V.ref a.u
def spKinds : Sp := fun vs H Q _ => ∃ (p c : Addr) (s m r t : Nat), vs = [.ref p, .int s, .int m, .int r, .int t] ∧ Pool H p c ∧ s + m ≤ 11 ∧ m ≤ r ∧ r ≤ 100 ∧ 0 < t ∧ t ≤ 5 ∧
  ∀ (q : Addr) (as : List KA) (ks : List KD) (H' : Hp), Gro p H H' → Pool H' p c → H q = none → H' q = some (.lst (refsK as)) → KdsAt (off q (off p H')) as ks → (∀ a ∈ as, ∀ x ∈ a.fp, H x = none) → KdsOk ks → (∀ k ∈ ks, k.ss.length ≤ t ∧ Sm k) → ks.length = s + m → (ks.filter (·.one)).length = s → spotsN ks ≤ r → Q (.ref q) H'
section
variable {P : Program} {w : World} {K : PySem.W.Frag} {mg : Str → Option Value} {base : Heap}
def nKinds : List Str := ["_law_pool_here", "_law_singles", "_law_manys", "_law_room", "_law_most", "_law_base_here", "_law_k", "_law_doors", "_law_kinds_here", "_law_single", "_law_size"]
theorem scKinds : FnScope nKinds ["_law_pool_here", "_law_singles", "_law_manys", "_law_room", "_law_most"] (defScope sKinds) := ⟨rfl, rfl, rfl, by decide +kernel, rfl, by decide +kernel, by decide +kernel⟩
theorem ok_kinds {f fT fB fN fK : Addr} {fd dT dB dN dK : FuncData} (F : Fun K "_law_kinds" "_law_kinds" sKinds f fd) (B : Blt mg) (hM : mg "min" = none) (TT : Fn K mg "_law_take" sTake ["_law_pool_here", "_law_size"] fT dT)
    (TB : Fn K mg "_law_base" sBase ["_law_pool_here"] fB dB) (TN : Fn K mg "_law_name" sName ["_law_pool_here", "_law_base_here", "_law_k"] fN dN)
    (TK : Fn K mg "_law_kind" sKind ["_law_pool_here", "_law_base_here", "_law_k", "_law_single", "_law_size", "_law_doors"] fK dK) (GK : FnOk P w K mg base CX0 3 fK dK ["_law_pool_here", "_law_base_here", "_law_k", "_law_single", "_law_size", "_law_doors"] spKind) :
    FnOk P w K mg base CX0 4 f fd ["_law_pool_here", "_law_singles", "_law_manys", "_law_room", "_law_most"] spKinds := by
  have GT : FnOk P w K mg base CX0 1 fT dT ["_law_pool_here", "_law_size"] spTake := ok_take TT.F B
  have GN : FnOk P w K mg base CX0 2 fN dN ["_law_pool_here", "_law_base_here", "_law_k"] spName := ok_name TN.F B TT
  have GB : FnOk P w K mg base CX0 2 fB dB ["_law_pool_here"] (spBase 12) := ok_base TB.F B TT
  refine F.ok scKinds (fun vs H Q E h => ?_) (fun cdv A outer s H vs Q E hr h => ?_)
  · obtain ⟨p, c, s, m, r, t, rfl, _⟩ := h
    rfl
  · obtain ⟨p, c, s, m, r, t, rfl, hP, hsm, hmr, hr100, t0, t5, k⟩ := h
    have r1 : Room 1 _ := hr.mono (by decide)
    have r2 : Room 2 _ := hr.mono (by decide)
    have r3 : Room 3 _ := hr.mono (by decide)
    refine ⟨_, pss_cons (ps_set (i := 5) scKinds.nd rfl (Or.inr rfl) (pe_call GB r2 rfl TB.g TB.F.kp TB.b .nil pass0 (pa_cons (pv 0) pa_nil)))
      (pss_cons (ps_setLc (i := 7) (own := [("_law_k", 6)]) (g := gName 6) (tt := tYes) rfl scKinds.nd rfl rfl (sw_true rfl rfl rfl (by decide +kernel)) (pi_range1 rfl B.range (pa_cons (pe_op op_add pe_int (pe_call GT r1 rfl TT.g TT.F.kp TT.b .nil pass0 (pa_cons (pv 0) (pa_cons pe_int pa_nil)))) pa_nil)) (blkOk_by (N := nKinds) (sc := defScope sKinds) (by decide +kernel))
          (fun _ _ _ _ _ => pg_name (i := 6) scKinds.nd rfl (Or.inl rfl)) (fun _ _ _ _ _ => pts_nil)
          (fun _ _ _ _ _ => pe_call GN r2 rfl TN.g TN.F.kp TN.b .nil pass0 (pa_cons (pv 0) (pa_cons (pv 5) (pa_cons (pv 6) pa_nil)))))
      (pss_cons (ps_set (i := 8) scKinds.nd rfl (Or.inl rfl) (pe_lst pa_nil))
      (pss_cons (ps_for PassesOwn.never rfl (pi_range1 rfl B.range (pa_cons (pe_op op_add (pv 1) (pv 2)) pa_nil)) (pg_name (i := 6) scKinds.nd rfl (Or.inl rfl))
        (C8.pss_cut (ps_set (i := 9) scKinds.nd rfl (Or.inl rfl) (pe_and (pe_cmpR op_gt (pv 1) pe_int (nomark _)) (pe_one (pe_or (pe_cmpR op_eq (pv 2) pe_int (nomark _)) (pe_one (pe_cmpR op_eq (pe_call GT r1 rfl TT.g TT.F.kp TT.b .nil pass0 (pa_cons (pv 0) (pa_cons pe_int pa_nil))) pe_int (nomark _)))))))
        (C8.pss_cut (ps_if (pt_val (pv 9))
            (pss_cons (ps_set (i := 1) scKinds.nd rfl (Or.inl rfl) (pe_op op_sub (pv 1) pe_int))
              (pss_one (ps_set (i := 10) scKinds.nd rfl (Or.inl rfl) (pe_callB (call_min2Nu rfl) (by rfl) hM (by decide +kernel) (pa_cons (pe_callTy call_int1 (by rfl) B.int (by decide +kernel) (pa_cons (pv 4) pa_nil))
                (pa_cons (pe_ix ix_list (pe_lst (pa_cons pe_int (pa_cons pe_int (pa_cons pe_int (pa_cons pe_int (pa_cons pe_int (pa_cons pe_int (pa_cons pe_int (pa_cons pe_int pa_nil))))))))) (pe_call GT r1 rfl TT.g TT.F.kp TT.b .nil pass0 (pa_cons (pv 0) (pa_cons pe_int pa_nil))) (fun _ _ => rfl)) pa_nil))))))
            (pss_cons (ps_set (i := 2) scKinds.nd rfl (Or.inl rfl) (pe_op op_sub (pv 2) pe_int))
              (pss_cons (ps_set (i := 10) scKinds.nd rfl (Or.inl rfl) (pe_callB (call_min3Nu rfl) (by rfl) hM (by decide +kernel) (pa_cons (pe_callTy call_int1 (by rfl) B.int (by decide +kernel) (pa_cons (pv 4) pa_nil))
                (pa_cons (pe_callTy call_int1 (by rfl) B.int (by decide +kernel) (pa_cons (pe_op op_sub (pv 3) (pv 2)) pa_nil))
                (pa_cons (pe_callTy call_int1 (by rfl) B.int (by decide +kernel) (pa_cons (pe_ix ix_list (pe_lst (pa_cons pe_int (pa_cons pe_int (pa_cons pe_int (pa_cons pe_int (pa_cons pe_int (pa_cons pe_int (pa_cons pe_int (pa_cons pe_int pa_nil))))))))) (pe_call GT r1 rfl TT.g TT.F.kp TT.b .nil pass0 (pa_cons (pv 0) (pa_cons pe_int pa_nil))) (fun _ _ => rfl)) pa_nil)) pa_nil)))))
              (pss_one (ps_set (i := 3) scKinds.nd rfl (Or.inl rfl) (pe_op op_sub (pv 3) (pv 10)))))))
        (pss_one (ps_expr (pe_bm PySem.F.plainAttrs_list PySem.F.slot_list_append PySem.F.type_list_append mt_append (pv 8) (pa_cons (pe_call GK r3 rfl TK.g TK.F.kp TK.b .nil pass0 (pa_cons (pv 0) (pa_cons (pv 5) (pa_cons (pv 6) (pa_cons (pv 9) (pa_cons (pv 10) (pa_cons (pv 7) pa_nil))))))) pa_nil)))))))
      (pss_one (ps_ret (pv 8)))))), ?_⟩
    refine ⟨_, rfl, p, c, rfl, hP, fun b H1 hb hsb g1 P1 => ?_⟩
    refine ⟨_, rfl, p, c, 5, rfl, P1, by decide, by decide, fun v H2 v0 v1 g2 P2 => ⟨_, _, rfl, rfl, _, rfl, by omega, by omega, fun dl hdl0 => ?_⟩⟩
    obtain ⟨ndp, ndc⟩ := P2.ne hdl0
    refine lc_range (lo := 0) (n := ((1 : Int) + v).toNat) (NamL p c dl H2) (names_start P2 hdl0) (fun i H' hi inv => ⟨rfl, _, rfl, _, rfl, _, rfl, names_next (m := 5) (by omega) ndp ndc (by omega) hsb (by omega) inv hdl0⟩) ?_
    rintro H3 ⟨g3, P3, os, hos, hol, hon⟩
    have o0 : 0 < os.length := by omega
    have o5 : os.length ≤ 5 := by omega
    refine ⟨(by show 0 ≤ sizeLine; omega), fun D hD => ?_⟩
    obtain ⟨nDp, nDc⟩ := P3.ne hD
    refine ⟨_, rfl, _, rfl, _, _, rfl, rfl, _, rfl, by omega, by omega, for_range (lo := 0) (n := ((s : Int) + (m : Int)).toNat)
      (fun i σ H' => Gro p H3 H' ∧ Pool H' p c ∧ ∃ (as : List KA) (ks : List KD) (s' m' r' : Int) (v6 v9 v10 : Option V), (0 ≤ s' ∧ 0 ≤ m' ∧ s' + m' + i = s + m ∧ m' ≤ r') ∧ H' D = some (.lst (refsK as)) ∧ KdsAt (off D (off p H')) as ks ∧ ks.length = i ∧ KdsOk ks ∧ (∀ k ∈ ks, k.ss.length ≤ t ∧ Sm k) ∧
        ((ks.filter (·.one)).length : Int) + s' = s ∧ (spotsN ks : Int) + r' = r ∧ (∀ a ∈ as, ∀ x ∈ a.fp, H3 x = none) ∧ σ = [some (.ref p), some (.int s'), some (.int m'), some (.int r'), some (.int (t : Int)), some (.str b), v6, some (.ref dl), some (.ref D), v9, v10])
      ⟨.new hD, P3.new hD, [], [], s, m, r, _, _, _, ⟨by omega, by omega, by omega, by omega⟩, upd_same, True.intro, rfl, ⟨fun _ h => (nomatch h), fun i k e => by simp at e⟩, fun _ h => (nomatch h), by show ((0 : Nat) : Int) + _ = _; omega, by show ((0 : Nat) : Int) + _ = _; omega, fun _ h => (nomatch h), rfl⟩ ?_ ?_⟩
    · rintro i σ H' hi ⟨g4, P4, as, ks, s', m', r', v6, v9, v10, ⟨b0, b1, b2, b3⟩, eD, hks, kl, kok, kt, ks1, ks2, kfr, rfl⟩
      refine ⟨fun σ H5 => Gro p H' H5 ∧ Pool H5 p c ∧ ∃ one : Bool, (one = true → 0 < s') ∧ (one = false → 0 < m') ∧ σ = [some (.ref p), some (.int s'), some (.int m'), some (.int r'), some (.int (t : Int)), some (.str b), some (.int (0 + (i : Int))), some (.ref dl), some (.ref D), some (.bl one), v10], ?_, ?_⟩
      · refine ⟨_, rfl, _, _, rfl, rfl, _, rfl, ite2 (fun q1 => ?_) (fun q1 => ?_)⟩
        · have q1 := of_decide_eq_true q1
          refine ⟨_, rfl, rfl, _, rfl, ite2 (fun q2 => ?_) (fun q2 => ?_)⟩
          · exact ⟨.rfl', P4, true, fun _ => q1, fun z => (nomatch z), rfl⟩
          · refine ⟨_, rfl, p, c, 2, rfl, P4, by decide, by decide, fun v H5 v0 v1 g5 P5 => ?_⟩
            refine ⟨rfl, g5, P5, _, fun _ => q1, fun _ => ?_, rfl⟩
            have : m' ≠ 0 := fun e => q2 (by rw [e]; rfl)
            omega
        · have q1 : ¬ (0 : Int) < s' := fun z => q1 (decide_eq_true z)
          exact ⟨.rfl', P4, false, fun z => (nomatch z), fun _ => by omega, rfl⟩
      · rintro σ H5 ⟨g5, P5, one, c1, c2, rfl⟩
        refine ⟨fun σ H6 => Gro p H' H6 ∧ Pool H6 p c ∧ ∃ (n : Nat) (s2 m2 r2 : Int), 0 < n ∧ n ≤ t ∧ (0 ≤ s2 ∧ 0 ≤ m2 ∧ m2 ≤ r2) ∧ ((one = true ∧ s2 = s' - 1 ∧ m2 = m' ∧ r2 = r') ∨ (one = false ∧ s2 = s' ∧ m2 = m' - 1 ∧ r2 = r' - n)) ∧
          σ = [some (.ref p), some (.int s2), some (.int m2), some (.int r2), some (.int (t : Int)), some (.str b), some (.int (0 + (i : Int))), some (.ref dl), some (.ref D), some (.bl one), some (.int (n : Int))], ?_, ?_⟩
        · refine ⟨_, rfl, one, rfl, ?_⟩
          cases one with
          | true =>
            have c1 := c1 rfl
            refine iteT ⟨_, rfl, _, _, rfl, rfl, _, rfl, .inl ⟨_, rfl, (by show 8 ≤ sizeLine; decide), fun t8 ht8 => ⟨_, rfl, p, c, 8, rfl, P5.new ht8, by decide, by decide, fun v H6 v0 v1 g6 P6 => ?_⟩⟩⟩
            obtain ⟨y, hy, y0, y5⟩ := eightP (Q := fun n => 1 ≤ n ∧ n ≤ 5) (a0 := 2) (a1 := 1) (a2 := 3) (a3 := 2) (a4 := 3) (a5 := 3) (a6 := 4) (a7 := 5) v0 v1 (by omega) (by omega) (by omega) (by omega) (by omega) (by omega) (by omega) (by omega)
            obtain ⟨mm, em, e1, e2, e3⟩ := min2_int (t : Int) (y : Int)
            refine ⟨t8, _, _, _, rfl, rfl, SqL.of (g6 _ _ upd_same (P5.ne ht8).1), hy, _, _, _, rfl, em, ?_⟩
            obtain ⟨n, rfl⟩ : ∃ n : Nat, mm = (n : Int) := ⟨mm.toNat, by omega⟩
            exact ⟨g5.trans (Gro.trans (.new ht8) g6), P6, n, _, _, _, by omega, by omega, ⟨by omega, by omega, by omega⟩, .inl ⟨rfl, rfl, rfl, rfl⟩, rfl⟩
          | false =>
            have c2 := c2 rfl
            refine iteF ⟨_, rfl, _, _, rfl, rfl, _, rfl, .inl ⟨_, rfl, _, rfl, _, rfl, _, _, rfl, rfl, .inl ⟨_, rfl, (by show 8 ≤ sizeLine; decide), fun t8 ht8 => ⟨_, rfl, p, c, 8, rfl, P5.new ht8, by decide, by decide, fun v H6 v0 v1 g6 P6 => ?_⟩⟩⟩⟩
            obtain ⟨y, hy, y0, y5⟩ := eightP (Q := fun n => 1 ≤ n ∧ n ≤ 5) (a0 := 2) (a1 := 1) (a2 := 3) (a3 := 2) (a4 := 3) (a5 := 3) (a6 := 4) (a7 := 5) v0 v1 (by omega) (by omega) (by omega) (by omega) (by omega) (by omega) (by omega) (by omega)
            obtain ⟨mm, em, e1, e2, e3, e4⟩ := min3_int (t : Int) (r' - (m' - 1)) (y : Int)
            refine ⟨t8, _, _, _, rfl, rfl, SqL.of (g6 _ _ upd_same (P5.ne ht8).1), hy, .inl ⟨_, rfl, _, _, _, _, rfl, em, ?_⟩⟩
            obtain ⟨n, rfl⟩ : ∃ n : Nat, mm = (n : Int) := ⟨mm.toNat, by omega⟩
            refine ⟨_, rfl, _, rfl, _, _, rfl, rfl, ?_⟩
            exact ⟨g5.trans (Gro.trans (.new ht8) g6), P6, n, _, _, _, by omega, by omega, ⟨by omega, by omega, by omega⟩, .inr ⟨rfl, rfl, rfl, rfl⟩, rfl⟩
        · rintro σ H6 ⟨g6, P6, n, s2, m2, r2, n0, nt, ⟨d0, d1, d2⟩, dd, rfl⟩
          have hdl6 := g6 _ _ (g4 _ _ hos ndp) ndp
          have eD6 := g6 _ _ eD nDp
          refine ⟨_, rfl, .inl ⟨rfl, _, SqL.of eD6⟩, _, rfl, _, rfl, _, rfl, _, rfl, _, rfl, _, rfl, p, c, dl, b, i, one, n, os, by rw [show (0 : Int) + (i : Int) = (i : Int) by omega]; rfl, P6, by omega, hsb, by omega, n0, by omega, hdl6, ndp, o0, o5, hon, fun a kd H7 g7 P7 fr at_ ok nmk oneq ⟨len, sm⟩ => ?_⟩
          have eD7 := g7 _ _ eD6 nDp
          have al := hks.len
          refine ⟨D, _, _, rfl, rfl, eD7, small1000 (by unfold refsK; rw [List.length_map]; omega), fun x o e ne => ?_, P7.off nDp nDc, as ++ [a], ks ++ [kd], s2, m2, r2, _, _, _, ⟨d0, d1, by omega, d2⟩, by rw [upd_same]; unfold refsK; rw [List.map_append]; rfl, ?_, by rw [List.length_append, kl]; rfl, ?_, ?_, ?_, ?_, ?_, rfl⟩
          · rw [upd_ne (ne_of_none e hD)]
            exact g7 _ _ (g6 _ _ (g4 _ _ e ne) ne) ne
          · refine KdsAt.snoc (at_.on (fun x hx o e => ?_) fun t xs e => ?_) (hks.keep ((off_same (off_gro (g6.trans g7))).trans off_own)) fun y hy x hx hx' => ?_
            · obtain ⟨n1, e⟩ := off_is e
              have nD : x ≠ D := fun z => by rw [← z, fr x hx] at eD6; cases eD6
              rw [off_ne nD, off_ne n1, upd_ne nD]
              exact e
            · obtain ⟨n1, e⟩ := off_is e
              have nD : t ≠ D := ne_of e eD7 (fun z => nomatch z)
              rw [off_ne nD, off_ne n1, upd_ne nD]
              exact e
            · obtain ⟨o, e⟩ := hks.tracked y hy x hx
              obtain ⟨n1, e⟩ := off_is e
              obtain ⟨n2, e⟩ := off_is e
              have q := g6 _ _ e n2
              rw [fr x hx'] at q
              cases q
          · refine ⟨fun k' hk' => ?_, fun j k' hj => ?_⟩
            · rcases List.mem_append.mp hk' with m | m
              · exact kok.ok k' m
              · rw [List.mem_singleton.mp m]; exact ok
            · rcases Nat.lt_or_ge j ks.length with lt | ge
              · rw [List.getElem?_append_left lt] at hj
                exact kok.nm j k' hj
              · rw [List.getElem?_append_right ge] at hj
                have h0 : j - ks.length = 0 := by
                  have := (List.getElem?_eq_some_iff.mp hj).1
                  simp at this
                  omega
                rw [h0] at hj
                have ej : j = i := by omega
                rw [ej, ← Option.some.inj hj]
                exact nmk
          · intro k' hk'
            rcases List.mem_append.mp hk' with m | m
            · exact kt k' m
            · rw [List.mem_singleton.mp m, len]; exact ⟨nt, sm⟩
          · rw [List.filter_append, List.length_append]
            rcases dd with ⟨rfl, q1, q2, q3⟩ | ⟨rfl, q1, q2, q3⟩
            · have e : [kd].filter (·.one) = [kd] := by simp [oneq]
              rw [e]
              show ((_ + 1 : Nat) : Int) + _ = _
              omega
            · have e : [kd].filter (·.one) = [] := by simp [oneq]
              rw [e]
              show ((_ + 0 : Nat) : Int) + _ = _
              omega
          · unfold spotsN at ks2 ⊢
            rw [List.filter_append, List.map_append, List.sum_append]
            rcases dd with ⟨rfl, q1, q2, q3⟩ | ⟨rfl, q1, q2, q3⟩
            · have e : [kd].filter (fun k => !k.one) = [] := by simp [oneq]
              rw [e]
              show ((_ + 0 : Nat) : Int) + _ = _
              omega
            · have e : [kd].filter (fun k => !k.one) = [kd] := by simp [oneq]
              rw [e]
              show ((_ + (kd.ss.length + 0) : Nat) : Int) + _ = _
              omega
          · intro y hy x hx
            rcases List.mem_append.mp hy with m | m
            · exact kfr y m x hx
            · rw [List.mem_singleton.mp m] at hx
              have z := fr x hx
              have np := (P6.ne z).1
              exact g4.free (g6.free z np) np
    · rintro σ H' ⟨g4, P4, as, ks, s', m', r', v6, v9, v10, ⟨b0, b1, b2, b3⟩, eD, hks, kl, kok, kt, ks1, ks2, kfr, rfl⟩
      have back : ∀ x, H3 x = none → H x = none := fun x e => by
        have np := (P3.ne e).1
        exact g1.free (g2.free (g3.free e np) np) np
      exact ⟨_, rfl, k D as ks H' (g1.trans (g2.trans (g3.trans g4))) P4 (back _ hD) eD hks (fun a ha x hx => back x (kfr a ha x hx)) kok kt (by omega) (by omega) (by omega)⟩
end
end Yd
namespace Yd
open PySem L2
/-! ### the kinds of the program, made as they are drawn -/
/-- where the defs and classes of kinds stand -/
structure Kn where
  A : Addr
  S : Addr
  F : Addr
  N : Addr
  G : Addr
  I : Addr
  P : Addr
  T : Addr
  L : Addr
  CI : Addr
  CM : Addr
  CU : Addr
  CN : Addr
  CR : Addr
def Kn.cls (n : Kn) (one : Bool) : Addr := if one = true then n.CI else n.CM
/-- the class of one of the two sorts of kinds -/
structure KCls (P : Program) (w : World) (K : PySem.W.Frag) (mg : Str → Option Value) (base : Heap) (n : Kn) (one : Bool) : Prop where
  ex : ∃ fR fW dW, PartK K (n.cls one) n.A n.S n.F n.N n.G n.I n.P n.T fR n.L ∧ Meth K (n.cls one) "twin" fW ∧ FnOk P w K mg base CX0 7 fW dW ["self"] (spTwin K (n.cls one) n.A n.S n.F n.N n.G n.I n.P n.T fR n.L) ∧ Binds K dW ["self"] []
  ca : PySem.W.findIn K (.ref (n.cls one)) "__class__" = some (some (.builtin "object.__class__"))
  cn : PySem.W.specialIn K (.builtin "object.__class__") "__get__" = some (some (.builtin "getset_descriptor.__get__"))
  ct : PySem.W.takesIn K (.builtin "object.__class__") = some true
  cm : PySem.W.mroIn K (n.cls one) (.type "object") = some true
  kI : PySem.W.kitOne K (.ref (n.cls one)) (.ref n.CI) = some one
  kM : PySem.W.kitOne K (.ref (n.cls one)) (.ref n.CM) = some (!one)
/-- all that is known of kinds -/
structure KEnv (P : Program) (w : World) (K : PySem.W.Frag) (mg : Str → Option Value) (base : Heap) (n : Kn) : Prop where
  c : ∀ one, KCls P w K mg base n one
  gI : mg "Single" = some (.ref n.CI)
  gM : mg "Many" = some (.ref n.CM)
  mkp : ∀ one, ∃ f d, Mk K (n.cls one) f ∧ FnOk P w K mg base (L2.CX P w) 5 f d ["self", "name", "standings"] (spPartInit K n.CR) ∧ Binds K d ["self", "name", "standings"] []
  st : ∃ d, FnOk P w K mg base CX0 1 n.S d ["self"] (spStandings K) ∧ Binds K d ["self"] []
  al : ∃ d, FnOk P w K mg base (L2.CX P w) 3 n.A d ["self", "before", "after"] (spAllow K n.CU n.CN) ∧ Binds K d ["self", "before", "after"] []
  fr : ∃ d, FnOk P w K mg base (L2.CX P w) 3 n.F d ["self", "standing"] (spStepsFrom K n.CU) ∧ Binds K d ["self", "standing"] []
  ge : ∃ d, FnOk P w K mg base (L2.CX P w) 3 n.I d ["self", "at"] (spDGet K n.CU) ∧ Binds K d ["self", "at"] []
  pu : ∃ d, FnOk P w K mg base (L2.CX P w) 3 n.P d ["self", "at", "worth"] (spDPut K n.CU) ∧ Binds K d ["self", "at", "worth"] []
  nI : PySem.W.kitOne K (.type "NoneType") (.ref n.CI) = some false
  nM : PySem.W.kitOne K (.type "NoneType") (.ref n.CM) = some false
def KD.R (k : KD) : Str → Str → Bool := fun s t => decide ((s, t) ∈ k.st)
/-- where a part stands -/
structure PX where
  a : Addr
  dx : Addr
  ds : Addr
  dd : Addr
  es : List Addr
  ts : List Addr
  m : Nat
def PX.fp (x : PX) : List Addr := x.ds :: x.dd :: x.es
structure PartAt (H : Hp) (n : Kn) (x : PX) (k : KD) : Prop where
  pa : PA H x.a (n.cls k.one) x.dx k.nm x.ds x.dd k.ss x.es x.ts k.R x.m k.ng
  m : x.m ≤ 100
theorem PartAt.keep {H H' : Hp} {n : Kn} {x : PX} {k : KD} (h : PartAt H n x k) (s : Same H H') : PartAt H' n x k := ⟨h.pa.keep s, h.m⟩
theorem PartAt.keepL {H H' : Hp} {n : Kn} {x : PX} {k : KD} (h : PartAt H n x k) (s : ∀ b o, H b = some o → (∀ xs, o ≠ .lst xs) → H' b = some o) : PartAt H' n x k := ⟨h.pa.keepL s, h.m⟩
theorem PartAt.tracked {H : Hp} {n : Kn} {x : PX} {k : KD} (h : PartAt H n x k) : ∀ b ∈ x.fp, ∃ o, H b = some o := fun b hb => by
  unfold PX.fp at hb
  obtain ⟨t1, t2, t3⟩ := h.pa.tracked
  rcases List.mem_cons.mp hb with rfl | hb
  · exact t1
  · rcases List.mem_cons.mp hb with rfl | hb
    · exact t2
    · exact t3 b hb
def PartsAt (H : Hp) (n : Kn) : List PX → List KD → Prop
  | [], [] => True
  | x :: xs, k :: ks => PartAt H n x k ∧ (∀ b ∈ x.fp, ∀ y ∈ xs, b ∉ y.fp) ∧ PartsAt H n xs ks
  | _, _ => False
section
variable {H H' : Hp} {n : Kn}
theorem PartsAt.keepL (s : ∀ b o, H b = some o → (∀ xs, o ≠ .lst xs) → H' b = some o) : ∀ {xs : List PX} {ks : List KD}, PartsAt H n xs ks → PartsAt H' n xs ks
  | [], [], _ => True.intro
  | _ :: _, _ :: _, ⟨h, d, r⟩ => ⟨h.keepL s, d, PartsAt.keepL s r⟩
  | [], _ :: _, h => h.elim
  | _ :: _, [], h => h.elim
theorem PartsAt.keep {xs : List PX} {ks : List KD} (h : PartsAt H n xs ks) (s : Same H H') : PartsAt H' n xs ks := h.keepL fun b o e _ => s b o e
theorem PartsAt.len : ∀ {xs : List PX} {ks : List KD}, PartsAt H n xs ks → xs.length = ks.length
  | [], [], _ => rfl
  | _ :: _, _ :: _, ⟨_, _, r⟩ => by rw [List.length_cons, List.length_cons, PartsAt.len r]
  | [], _ :: _, h => h.elim
  | _ :: _, [], h => h.elim
theorem PartsAt.tracked : ∀ {xs : List PX} {ks : List KD}, PartsAt H n xs ks → ∀ y ∈ xs, ∀ b ∈ y.fp, ∃ o, H b = some o
  | [], [], _, _, m => nomatch m
  | a :: as, k :: ks, ⟨h, _, r⟩, b, m => (List.mem_cons.mp m).elim (fun e => by subst e; exact h.tracked) fun m => PartsAt.tracked r b m
  | [], _ :: _, h, _, _ => h.elim
  | _ :: _, [], h, _, _ => h.elim
theorem PartsAt.snoc {x : PX} {k : KD} (e : PartAt H n x k) : ∀ {xs : List PX} {ks : List KD}, PartsAt H n xs ks → (∀ y ∈ xs, ∀ b ∈ y.fp, b ∉ x.fp) → PartsAt H n (xs ++ [x]) (ks ++ [k])
  | [], [], _, _ => ⟨e, fun _ _ _ m => (nomatch m), True.intro⟩
  | b :: as, _ :: _, ⟨h, d, r⟩, z => ⟨h, fun x hx c hc => (List.mem_append.mp hc).elim (fun m => d x hx c m) fun m => by rw [List.mem_singleton.mp m]; exact z b (List.mem_cons_self ..) x hx, PartsAt.snoc e r fun c hc => z c (List.mem_cons_of_mem _ hc)⟩
  | [], _ :: _, h, _ => h.elim
  | _ :: _, [], h, _ => h.elim
theorem PartsAt.get : ∀ {xs : List PX} {ks : List KD} {i : Nat} {k : KD}, PartsAt H n xs ks → ks[i]? = some k → ∃ x, xs[i]? = some x ∧ PartAt H n x k
  | [], [], _, _, _, h => by simp at h
  | a :: _, _ :: _, 0, k, ⟨h, _, _⟩, e => ⟨a, rfl, by rw [← Option.some.inj e]; exact h⟩
  | _ :: _, _ :: _, i + 1, k, ⟨_, _, q⟩, e => PartsAt.get (i := i) q (by simpa using e)
  | [], _ :: _, _, _, h, _ => h.elim
  | _ :: _, [], _, _, h, _ => h.elim
end
def refsP (xs : List PX) : List V := xs.map fun x => V.ref x.a
theorem refsK_get {as : List KA} {i : Nat} {a : KA} (h : as[i]? = some a) : (refsK as)[i]? = some (.ref a.u) := by unfold refsK; rw [List.getElem?_map, h]; rfl
theorem refsP_get {xs : List PX} {i : Nat} {x : PX} (h : xs[i]? = some x) : (refsP xs)[i]? = some (.ref x.a) := by unfold refsP; rw [List.getElem?_map, h]; rfl
theorem KdOk.good {k : KD} (h : KdOk k) : Good k.ss k.R k.ng := ⟨fun s t e => h.st (s, t) (of_decide_eq_true e), fun p hp => let ⟨a, b, c, d⟩ := h.ng p hp; ⟨a, b, by omega, by omega⟩⟩
/-- a part that is made -/
theorem part_made {K : PySem.W.Frag} {CR C l : Addr} {nm : Str} {ss : List Str} {H : Hp} {Q : Addr → Hp → Prop} (pc : PartC K C) (hl : TxS K H l ss) (s0 : 0 < ss.length) (s10 : ss.length ≤ 10) (hs : ∀ s ∈ ss, s.length ≤ 100) (snd : ss.Nodup)
    (k : ∀ (a dx ds dd : Addr) (es ts : List Addr) (H' : Hp), Same H H' → H a = none → H ds = none → H dd = none → (∀ e ∈ es, H e = none) → PA H' a C dx nm ds dd ss es ts (fun _ _ => false) 0 (ss.map fun _ => ([], [])) → Q a H') :
    ∀ x dx, H x = none → H dx = none → dx ≠ x → spPartInit K CR (.ref x :: ([.str nm, .ref l] ++ [])) (upd (upd H dx (.own x)) x (.ins C dx [])) (fun v H2 => v = .non ∧ Q x H2) (fun _ _ _ => False) := fun x dx nx nd ne => by
  have s2 : Same H (upd (upd H dx (.own x)) x (.ins C dx [])) := fun b o e => by rw [upd_ne (ne_of_none e nx), upd_ne (ne_of_none e nd)]; exact e
  have i2 : upd (upd H dx (.own x)) x (.ins C dx []) x = some (.ins C dx []) := upd_same
  generalize upd (upd H dx (.own x)) x (.ins C dx []) = H2 at s2 i2
  refine ⟨x, C, dx, nm, l, ss, rfl, i2, pc, hl.keep s2, by omega, hs, fun i s h1 h2 _ => ?_, fun _ ds es dd ts H3 m1 m2 m3 g3 e3 S3 D3 => ⟨rfl, ?_⟩⟩
  · obtain ⟨j, hj⟩ := List.mem_iff_getElem?.mp h2
    have hji : j < i := by
      have := (List.getElem?_eq_some_iff.mp hj).1
      rw [List.length_take] at this
      omega
    rw [List.getElem?_take_of_lt hji] at hj
    exact absurd (nd_ix snd h1 hj) (by omega)
  · exact k x dx ds dd es ts H3 (fun b o e => g3 b o (s2 b o e) (ne_of_none e nx)) nx (s2.free m1) (s2.free m3) (fun e he => s2.free (m2 e he)) (pa_new e3 S3 D3 s0)
theorem refsK_at {as : List KA} {i : Nat} {y : V} (h : (refsK as)[i]? = some y) : ∃ a, as[i]? = some a ∧ y = .ref a.u := by
  unfold refsK at h
  rw [List.getElem?_map] at h
  obtain ⟨a, e, q⟩ := Option.map_eq_some_iff.mp h
  exact ⟨a, e, q.symm⟩
theorem refsP_at {xs : List PX} {i : Nat} {y : V} (h : (refsP xs)[i]? = some y) : ∃ x, xs[i]? = some x ∧ y = .ref x.a := by
  unfold refsP at h
  rw [List.getElem?_map] at h
  obtain ⟨a, e, q⟩ := Option.map_eq_some_iff.mp h
  exact ⟨a, e, q.symm⟩
theorem KdsAt.at_ {H : Hp} {as : List KA} {ks : List KD} {i : Nat} {a : KA} (h : KdsAt H as ks) (e : as[i]? = some a) : ∃ k, ks[i]? = some k ∧ KdAt H a k := by
  have l := h.len
  have hl := (List.getElem?_eq_some_iff.mp e).1
  obtain ⟨k, hk⟩ : ∃ k, ks[i]? = some k := ⟨_, List.getElem?_eq_getElem (by omega)⟩
  obtain ⟨a', e', q⟩ := h.get hk
  rw [e] at e'
  cases e'
  exact ⟨k, hk, q⟩
theorem PartsAt.at_ {H : Hp} {n : Kn} {as : List PX} {ks : List KD} {i : Nat} {a : PX} (h : PartsAt H n as ks) (e : as[i]? = some a) : ∃ k, ks[i]? = some k ∧ PartAt H n a k := by
  have l := h.len
  have hl := (List.getElem?_eq_some_iff.mp e).1
  obtain ⟨k, hk⟩ : ∃ k, ks[i]? = some k := ⟨_, List.getElem?_eq_getElem (by omega)⟩
  obtain ⟨a', e', q⟩ := h.get hk
  rw [e] at e'
  cases e'
  exact ⟨k, hk, q⟩
theorem takeK {ks : List KD} {i : Nat} {k : KD} (h : ks[i]? = some k) : ks.take (i + 1) = ks.take i ++ [k] := by
  rw [List.take_add_one, h]
  rfl
def spParts (n : Kn) : Sp := fun vs H Q _ => ∃ (kl : Addr) (as : List KA) (ks : List KD), vs = [.ref kl] ∧ H kl = some (.lst (refsK as)) ∧ KdsAt H as ks ∧ KdsOk ks ∧ ks.length ≤ 11 ∧
  ∀ (q : Addr) (xs : List PX) (H' : Hp), Same H H' → H q = none → H' q = some (.lst (refsP xs)) → PartsAt H' n xs ks → (∀ x ∈ xs, ∀ b ∈ x.fp, H b = none) → Q (.ref q) H'
section
variable {P : Program} {w : World} {K : PySem.W.Frag} {mg : Str → Option Value} {base : Heap}
def nParts : List Str := ["_law_kinds_here", "_law_parts_here", "_law_kind_here", "_law_part", "_law_step", "_law_k"]
theorem scParts : FnScope nParts ["_law_kinds_here"] (defScope sParts) := ⟨rfl, rfl, rfl, by decide +kernel, rfl, by decide +kernel, by decide +kernel⟩
theorem ok_parts {f : Addr} {fd : FuncData} {n : Kn} (F : Fun K "_law_parts" "_law_parts" sParts f fd) (B : Blt mg) (hL : mg "list" = none) (E : KEnv P w K mg base n) : FnOk P w K mg base CX0 7 f fd ["_law_kinds_here"] (spParts n) := by
  refine F.ok scParts (fun vs H Q E h => ?_) (fun cdv A outer s H vs Q E' hr h => ?_)
  · obtain ⟨kl, as, ks, rfl, _⟩ := h
    rfl
  · obtain ⟨kl, as, ks, rfl, hkl, hks, kok, kl11, k⟩ := h
    have r3 : Room 3 _ := hr.mono (by decide)
    obtain ⟨f1, d1, M1, G1, b1⟩ := E.mkp true
    obtain ⟨f2, d2, M2, G2, b2⟩ := E.mkp false
    refine ⟨_, pss_cons (ps_set (i := 1) scParts.nd rfl (Or.inl rfl) (pe_lst pa_nil))
      (pss_cons (ps_for PassesOwn.never rfl (pi_list (pv 0)) (pg_name (i := 2) scParts.nd rfl (Or.inl rfl))
        (C8.pss_cut (ps_if (pt_val (pe_ix ix_list (pv 2) pe_int (fun _ _ => rfl)))
            (pss_one (ps_set (i := 3) scParts.nd rfl (Or.inl rfl) (pe_make M1 G1 hr (by rfl) E.gI b1 .nil passF (pa_cons (pe_ix ix_list (pv 2) pe_int (fun _ _ => rfl)) (pa_cons (pe_callTy call_list_of (by rfl) hL (by decide +kernel) (pa_cons (pe_ix ix_list (pv 2) pe_int (fun _ _ => rfl)) pa_nil)) pa_nil)))))
            (pss_one (ps_set (i := 3) scParts.nd rfl (Or.inl rfl) (pe_make M2 G2 hr (by rfl) E.gM b2 .nil passF (pa_cons (pe_ix ix_list (pv 2) pe_int (fun _ _ => rfl)) (pa_cons (pe_callTy call_list_of (by rfl) hL (by decide +kernel) (pa_cons (pe_ix ix_list (pv 2) pe_int (fun _ _ => rfl)) pa_nil)) pa_nil))))))
        (pss_cons (ps_for PassesOwn.never rfl (pi_list (pe_ix ix_list (pv 2) pe_int (fun _ _ => rfl))) (pg_name (i := 4) scParts.nd rfl (Or.inl rfl))
          (pss_one (ps_expr (pe_dynA (pv 3) r3 passF (pa_cons (pe_ix ix_tup (pv 4) pe_int (fun _ _ => rfl)) (pa_cons (pe_ix ix_tup (pv 4) pe_int (fun _ _ => rfl)) pa_nil))))))
        (pss_cons (ps_for PassesOwn.never rfl (pi_range1 rfl B.range (pa_cons (pe_callB call_len_seq (by rfl) B.len PySem.boot_len (pa_cons (pe_ix ix_list (pv 2) pe_int (fun _ _ => rfl)) pa_nil)) pa_nil)) (pg_name (i := 5) scParts.nd rfl (Or.inl rfl))
          (pss_one (ps_asg (pe_tup (pa_cons (pe_callTy call_list_of (by rfl) hL (by decide +kernel) (pa_cons (pe_ix ix_list (pe_ix ix_list (pv 2) pe_int (fun _ _ => rfl)) (pv 5) (fun _ _ => rfl)) pa_nil)) (pa_cons (pe_callTy call_list_of (by rfl) hL (by decide +kernel) (pa_cons (pe_ix ix_list (pe_ix ix_list (pv 2) pe_int (fun _ _ => rfl)) (pv 5) (fun _ _ => rfl)) pa_nil)) pa_nil)))
            (pg_subD (pv 3) (pe_ix ix_list (pe_ix ix_list (pv 2) pe_int (fun _ _ => rfl)) (pv 5) (fun _ _ => rfl)) r3 passF))))
        (pss_one (ps_expr (pe_bm PySem.F.plainAttrs_list PySem.F.slot_list_append PySem.F.type_list_append mt_append (pv 1) (pa_cons (pv 3) pa_nil))))))))
      (pss_one (ps_ret (pv 1)))), ?_⟩
    refine ⟨(by show 0 ≤ sizeLine; omega), fun D hD => ?_⟩
    have sD : Same H (upd H D (.lst [])) := same_new hD
    refine ⟨_, rfl, kl, rfl, ⟨_, SqL.of (sD _ _ hkl)⟩, for_list (K := K) (a := kl) (xs := refsK as)
      (fun i σ H' => Same H H' ∧ ∃ (xs : List PX) (v2 v3 v4 v5 : Option V), H' D = some (.lst (refsP xs)) ∧ PartsAt H' n xs (ks.take i) ∧ (∀ x ∈ xs, ∀ b ∈ x.fp, H b = none) ∧ σ = [some (.ref kl), some (.ref D), v2, v3, v4, v5])
      ⟨sD, [], _, _, _, _, upd_same, True.intro, fun _ h => (nomatch h), rfl⟩ (fun i σ H' _ h => SqL.of (h.1 _ _ hkl)) ?_ ?_⟩
    · rintro i y σ H' hi ⟨s1, xs, v2, v3, v4, v5, eD, hxs, fr, rfl⟩
      obtain ⟨a, ha, rfl⟩ := refsK_at hi
      obtain ⟨kd, hkd, ka⟩ := hks.at_ ha
      have mkd := List.mem_of_getElem? hkd
      have ok := kok.ok kd mkd
      have k5 := ok.s5
      have k' := ka.keep s1
      obtain ⟨fR, fW, dW, pk, _, _, _⟩ := (E.c kd.one).ex
      refine ⟨fun σ H2 => ∃ x : PX, PA H2 x.a (n.cls kd.one) x.dx kd.nm x.ds x.dd kd.ss x.es x.ts (fun _ _ => false) 0 (kd.ss.map fun _ => ([], [])) ∧ Same H' H2 ∧ (∀ b ∈ x.fp, H' b = none) ∧ σ = [some (.ref kl), some (.ref D), some (.ref a.u), some (.ref x.a), v4, v5], ?_, ?_⟩
      · refine ⟨_, rfl, a.u, _, 1, _, rfl, rfl, SqL.of k'.hu, at_c (j := 1) rfl rfl, kd.one, rfl, ite2 (fun ho => ?_) (fun ho => ?_)⟩
        · refine ⟨_, rfl, a.u, _, 0, _, rfl, rfl, SqL.of k'.hu, at_c (j := 0) rfl rfl, _, rfl, a.u, _, 2, _, rfl, rfl, SqL.of k'.hu, at_c (j := 2) rfl rfl, a.l, _, rfl, .inl (SqL.of k'.hl), fun l hl => ?_⟩
          have sl := same_new (o := .lst (kd.ss.map V.str)) hl
          obtain ⟨fR1, fW1, dW1, pk1, _, _, _⟩ := (E.c true).ex
          refine part_made (Q := fun a' H2 => _) pk1.pc (.inl (SqL.of upd_same)) ok.s0 (by omega) ok.sl ok.nd fun b dx ds dd es ts H2 s2 h1 h2 h3 h4 pa => ?_
          refine ⟨⟨b, dx, ds, dd, es, ts, 0⟩, by rw [ho]; exact pa, sl.trans s2, fun c hc => ?_, rfl⟩
          rcases List.mem_cons.mp hc with rfl | hc
          · exact sl.free h2
          · rcases List.mem_cons.mp hc with rfl | hc
            · exact sl.free h3
            · exact sl.free (h4 c hc)
        · have ho : kd.one = false := by cases q : kd.one with
            | true => exact absurd q ho
            | false => rfl
          refine ⟨_, rfl, a.u, _, 0, _, rfl, rfl, SqL.of k'.hu, at_c (j := 0) rfl rfl, _, rfl, a.u, _, 2, _, rfl, rfl, SqL.of k'.hu, at_c (j := 2) rfl rfl, a.l, _, rfl, .inl (SqL.of k'.hl), fun l hl => ?_⟩
          have sl := same_new (o := .lst (kd.ss.map V.str)) hl
          obtain ⟨fR1, fW1, dW1, pk1, _, _, _⟩ := (E.c false).ex
          refine part_made (Q := fun a' H2 => _) pk1.pc (.inl (SqL.of upd_same)) ok.s0 (by omega) ok.sl ok.nd fun b dx ds dd es ts H2 s2 h1 h2 h3 h4 pa => ?_
          refine ⟨⟨b, dx, ds, dd, es, ts, 0⟩, by rw [ho]; exact pa, sl.trans s2, fun c hc => ?_, rfl⟩
          rcases List.mem_cons.mp hc with rfl | hc
          · exact sl.free h2
          · rcases List.mem_cons.mp hc with rfl | hc
            · exact sl.free h3
            · exact sl.free (h4 c hc)
      · rintro σ H2 ⟨x, pa, s2, xfr, rfl⟩
        have k2 := k'.keep s2
        obtain ⟨dA, GA, bA⟩ := E.al
        obtain ⟨dP, GP, bP⟩ := E.pu
        -- its steps
        obtain ⟨sx, hsx, psx⟩ := k'.hq
        refine ⟨_, rfl, a.u, _, 3, _, rfl, rfl, SqL.of k2.hu, at_c (j := 3) rfl rfl, a.q, rfl, ⟨_, SqL.of (s2 _ _ hsx)⟩, for_list (K := K) (a := a.q) (xs := sx)
          (fun j σ H3 => Same H' H3 ∧ ∃ (R : Str → Str → Bool) (m : Nat) (v4 : Option V), PA H3 x.a (n.cls kd.one) x.dx kd.nm x.ds x.dd kd.ss x.es x.ts R m (kd.ss.map fun _ => ([], [])) ∧ m ≤ j ∧ (∀ s t, R s t = decide ((s, t) ∈ kd.st.take j)) ∧
            σ = [some (.ref kl), some (.ref D), some (.ref a.u), some (.ref x.a), v4, v5])
          ⟨s2, _, 0, _, pa, Nat.le_refl _, fun s t => by simp, rfl⟩ (fun j σ H3 _ h => SqL.of (h.1 _ _ hsx)) ?_ ?_⟩
        · rintro j y σ H3 hj ⟨s3, R, m, v4, pa3, hm, hR, rfl⟩
          obtain ⟨t, p, rfl, hp, ht⟩ := psx.get hj
          have ht' := s3 _ _ ht
          obtain ⟨o1, o2, o3⟩ := ok.st p (List.mem_of_getElem? hp)
          have jl := (List.getElem?_eq_some_iff.mp hp).1
          have stl := ok.stl
          refine ⟨_, rfl, x.a, _, x.dx, _, _, _, _, _, rfl, pa3.at_, fs_no _ _ _ (by decide +kernel) (by decide +kernel) (by decide +kernel), pk.k.cls, pk.k.mA, GA, bA, _, rfl, t, _, 0, _, rfl, rfl, SqT.of ht', at_c (j := 0) rfl rfl, _, rfl, t, _, 1, _, rfl, rfl, SqT.of ht', at_c (j := 1) rfl rfl, ?_⟩
          refine ⟨x.a, _, x.dx, _, x.ds, x.es, kd.ss, R, m, p.1, p.2, rfl, pk.k.cls, pk.k.nS, pa3.at_, fs_steps _ _ _, pa3.S, by omega, ok.sl _ o1, ok.sl _ o2, fun hn => absurd o1 hn, fun _ hn => absurd o2 hn, fun _ _ e => absurd e o3, fun _ _ _ e H5 he g5 S5 => ?_⟩
          refine ⟨fun b o eb => g5 b o (s3 b o eb) (fun z => ?_), _, m + 1, _, pa3.step he g5 S5, by omega, fun s t => ?_, rfl⟩
          · have := xfr e (List.mem_cons_of_mem _ (List.mem_cons_of_mem _ he))
            rw [z, this] at eb
            cases eb
          · unfold addR
            rw [hR, takeP hp]
            obtain ⟨p1, p2⟩ := p
            by_cases e : (s, t) = (p1, p2)
            · cases e
              simp
            · have e2 : ¬ (s = p1 ∧ t = p2) := fun ⟨a, b⟩ => e (by rw [a, b])
              simp only [List.mem_append, List.mem_singleton, e, or_false]
              by_cases q1 : s = p1
              · have q2 : ¬ t = p2 := fun z => e2 ⟨q1, z⟩
                simp [q2]
              · simp [q1]
        · rintro σ H3 ⟨s3, R, m, v4, pa3, hm, hR, rfl⟩
          have sxl := psx.len
          have stl := ok.stl
          have eR : R = kd.R := by
            funext s t
            rw [hR, sxl, List.take_length]
            rfl
          subst eR
          have k3 := k'.keep s3
          have ln := ok.ln
          -- its doors
          refine ⟨_, rfl, a.u, _, 2, _, rfl, rfl, SqL.of k3.hu, at_c (j := 2) rfl rfl, a.l, _, rfl, .inl (SqL.of k3.hl), _, rfl, by rw [List.length_map]; omega, by rw [List.length_map]; omega, for_range (lo := 0) (n := (((kd.ss.map V.str).length : Nat) : Int).toNat)
            (fun j σ H4 => Same H' H4 ∧ ∃ (ts : List Addr) (ng : List (List Str × List Str)) (v5 : Option V), PA H4 x.a (n.cls kd.one) x.dx kd.nm x.ds x.dd kd.ss x.es ts kd.R m ng ∧ (∀ i, i < j → ng[i]? = kd.ng[i]?) ∧
              σ = [some (.ref kl), some (.ref D), some (.ref a.u), some (.ref x.a), v4, v5])
            ⟨s3, _, _, _, pa3, fun i h => absurd h (Nat.not_lt_zero _), rfl⟩ ?_ ?_⟩
          · rintro j σ H4 hj ⟨s4, ts, ng, v5, pa4, hng, rfl⟩
            rw [List.length_map] at hj
            have jl : j < kd.ss.length := by omega
            obtain ⟨z, hz⟩ : ∃ z, kd.ss[j]? = some z := ⟨_, List.getElem?_eq_getElem jl⟩
            obtain ⟨q, hq⟩ : ∃ q, kd.ng[j]? = some q := ⟨_, List.getElem?_eq_getElem (by omega)⟩
            obtain ⟨o1, o2, o3, o4⟩ := ok.ng q (List.mem_of_getElem? hq)
            have mz := List.mem_of_getElem? hz
            have k4 := k'.keep s4
            obtain ⟨nj, hnj, enj⟩ := k4.hns.get (i := j) (xs := q.1) (by rw [List.getElem?_map, hq]; rfl)
            obtain ⟨gj, hgj, egj⟩ := k4.hgs.get (i := j) (xs := q.2) (by rw [List.getElem?_map, hq]; rfl)
            refine ⟨_, rfl, a.u, _, 4, _, rfl, rfl, SqL.of k4.hu, at_c (j := 4) rfl rfl, _, rfl, a.n, _, _, _, rfl, rfl, SqL.of k4.hn, at_r hnj (by omega), nj, _, rfl, .inl (SqL.of enj), fun l1 hl1 => ?_⟩
            have t1 := same_new (o := .lst (q.1.map V.str)) hl1
            have e1 : upd H4 l1 (.lst (q.1.map V.str)) l1 = _ := upd_same
            generalize upd H4 l1 (.lst (q.1.map V.str)) = H5 at t1 e1
            have k5' := k4.keep t1
            refine ⟨_, rfl, a.u, _, 5, _, rfl, rfl, SqL.of k5'.hu, at_c (j := 5) rfl rfl, _, rfl, a.g, _, _, _, rfl, rfl, SqL.of k5'.hg, at_r hgj (by omega), gj, _, rfl, .inl (SqL.of (t1 _ _ egj)), fun l2 hl2 => ⟨(by show 2 ≤ sizeLine; decide), fun t ht => ?_⟩⟩
            have t2 := same_new (o := .lst (q.2.map V.str)) hl2
            have e2 : upd H5 l2 (.lst (q.2.map V.str)) l2 = _ := upd_same
            generalize upd H5 l2 (.lst (q.2.map V.str)) = H6 at t2 e2 ht
            have t3 := same_new (o := .tup [.ref l1, .ref l2]) ht
            have e3 : upd H6 t (.tup [.ref l1, .ref l2]) t = _ := upd_same
            generalize upd H6 t (.tup [.ref l1, .ref l2]) = H7 at t3 e3
            have t17 := t1.trans (t2.trans t3)
            have k7 := k4.keep t17
            have pa7 := pa4.keep t17
            refine ⟨_, rfl, _, rfl, a.u, _, 2, _, rfl, rfl, SqL.of k7.hu, at_c (j := 2) rfl rfl, _, rfl, a.l, _, _, _, rfl, rfl, SqL.of k7.hl, at_s hz (by omega), ?_⟩
            refine ⟨x.a, _, x.dx, _, _, _, _, _, rfl, pa7.at_, pk.d.pi, GP, bP, ?_⟩
            refine ⟨x.a, _, x.dx, _, x.dd, ts, kd.ss, ng, z, t, l1, l2, q.1, q.2, rfl, pk.d.cls, pk.d.nD, pa7.at_, fs_doors _ _ _, pa7.D, ok.sl z mz, e3, .inl (SqL.of (t3 _ _ (t2 _ _ e1))), .inl (SqL.of (t3 _ _ e2)), by omega, by omega, by omega, fun hn => absurd mz hn, fun i2 h3 ts' H8 g8 D8 => ?_⟩
            have ei := nd_ix ok.nd h3 hz
            subst ei
            rw [once_id o1, once_id o2] at D8
            refine ⟨fun b o eb => g8 b o (t17 _ _ (s4 b o eb)) (fun w' => ?_), ts', _, _, pa7.put g8 D8, fun i' hi' => ?_, rfl⟩
            · have := xfr x.dd (List.mem_cons_of_mem _ (List.mem_cons_self ..))
              rw [w', this] at eb
              cases eb
            · by_cases e : i2 = i'
              · subst e
                rw [List.getElem?_set_self (by rw [pa7.D.ln]; exact jl), hq]
              · rw [List.getElem?_set_ne e]
                exact hng i' (by omega)
          · rintro σ H4 ⟨s4, ts, ng, v5, pa4, hng, rfl⟩
            rw [List.length_map] at hng
            have eN : ng = kd.ng := by
              refine List.ext_getElem? fun j => ?_
              rcases Nat.lt_or_ge j kd.ss.length with h | h
              · exact hng j (by omega)
              · rw [List.getElem?_eq_none (by rw [pa4.D.ln]; exact h), List.getElem?_eq_none (by omega)]
            subst eN
            have eD4 := s4 _ _ eD
            have xl := hxs.len
            rw [List.length_take] at xl
            refine ⟨_, rfl, .inl ⟨rfl, _, SqL.of eD4⟩, _, rfl, D, _, _, rfl, rfl, eD4, small1000 (by unfold refsP; rw [List.length_map]; omega), fun b o e => ?_, xs ++ [⟨x.a, x.dx, x.ds, x.dd, x.es, ts, m⟩], _, _, _, _, by rw [upd_same]; unfold refsP; rw [List.map_append]; rfl, ?_, fun y hy b hb => ?_, rfl⟩
            · rw [upd_ne (ne_of_none e hD)]
              exact s4 _ _ (s1 _ _ e)
            · rw [takeK hkd]
              have up : ∀ b o, H4 b = some o → (∀ ys, o ≠ .lst ys) → upd H4 D (.lst (refsP xs ++ [.ref x.a])) b = some o := fun b o e ne => by
                rw [upd_ne (fun z => ?_)]
                · exact e
                · rw [z, eD4] at e
                  exact ne _ (Option.some.inj e).symm
              refine PartsAt.snoc ⟨pa4.keepL up, by show m ≤ 100; omega⟩ ((hxs.keep s4).keepL up) fun y hy b hb hb' => ?_
              obtain ⟨o, e⟩ := hxs.tracked y hy b hb
              rw [xfr b hb'] at e
              cases e
            · rcases List.mem_append.mp hy with hy | hy
              · exact fr y hy b hb
              · rw [List.mem_singleton.mp hy] at hb
                exact s1.free (xfr b hb)
    · rintro σ H' ⟨s1, xs, v2, v3, v4, v5, eD, hxs, fr, rfl⟩
      have l := hks.len
      have e : ks.take (refsK as).length = ks := by
        unfold refsK
        rw [List.length_map, l, List.take_length]
      rw [e] at hxs
      exact ⟨_, rfl, k D xs H' s1 hD eD hxs fr⟩
end
end Yd
namespace Yd
open PySem L2
/-! ### list(d.values()); a dict comprehension over any walk; methods by positional values -/
section
theorem vals_kv {kvs : List (Key × V)} {vs : List (Key × Value)} (r : KV kvs vs) : ∀ {us : List Value}, us.length = vs.length → (∀ (j : Nat) (v : Value), us[j]? = some v → ∃ k, vs[j]? = some (k, v)) → Vals (kvs.map (·.2)) us := by
  unfold KV at r
  induction r with
  | nil =>
    intro us l _
    match us, l with
    | [], _ => exact .nil
  | @cons p q kvs vs h _ ih =>
    intro us l e
    match us, l, e with
    | u :: us, l, e =>
      obtain ⟨k, hk⟩ := e 0 u rfl
      have : q = (k, u) := Option.some.inj hk
      subst this
      exact .cons h.2 (ih (by simpa using l) fun j v hj => e (j + 1) v hj)
variable {X : Cx}
def tListVals (td : TE) : TE := fun σ H Q => td σ H fun x H1 => ∃ (d : Addr) (kvs : List (Key × V)), x = .ref d ∧ Rd H1 d (.dK kvs) ∧ ∀ q, H1 q = none → Q (.ref q) (upd H1 q (.lst (kvs.map (·.2))))
theorem pe_listVals {e : Expr} {td : TE} {p apos pos cpos : Pos} (hc : X.calm = true) (hg : Gl X "list") (hm : X.mg "list" = none) (hv : bootBuiltins "list" = some (.type "list")) (he : PE X e td)
    (hs : starEach [.Call (.Attribute e "values" apos) [] [] cpos] X.env = (false, eval (.Call (.Attribute e "values" apos) [] [] cpos) X.env) :: starEach [] X.env := by rfl)
    (hbase : attributeBase e "values" X.env (eval e X.env) = eval e X.env := by rfl) (hline : (apos.endLine == cpos.line) = true := by rfl) :
    PE X (.Call (.Name "list" p) [.Call (.Attribute e "values" apos) [] [] cpos] [] pos) (tListVals td) := by
  refine ⟨fun pins s σ H Q I hq => ?_⟩
  refine wpAny_Call_Name_kw (ld_blt I hg hm hv ?_)
  refine PyProof.Rows.callWith_type1 ?_ hs rfl
  rw [hs]
  show wpAny _ _ (spliced ((false, eval (.Call (.Attribute e "values" apos) [] [] cpos) X.env) :: backTo pos (starEach [] X.env))) _ _ s
  refine Calls.spliced_cons ?_
  refine wpAny_Call_method (T := "dict") (id := "dict.values") hbase rfl hline F.plainAttrs_dict F.slot_dict_values F.type_dict_values (thn (he.run pins s σ H _ I hq) fun u s1 ⟨x, H1, I1, rx, d, kvs, ex, hd, q⟩ => ?_)
  subst ex
  obtain rfl : u = Value.ref d := rx
  obtain ⟨z, lo, vs, rel, dd⟩ := dk_rd I1.hok hd
  obtain ⟨ep, hat⟩ := dd.dictAt
  refine ⟨dd.typeIs, dd.mapOf.noDict, ?_⟩
  have I2 : Inv X pins σ H1 { s1 with heap := s1.heap.push { cls := .type "dict_values", data := .fields #[.ref d] } } := I1.kept (t' := s1.toks) fun b ob q => Heap.get?_push_of_some _ q
  refine method_meetsIn F.slot_dict_values F.entry_dict_values rfl (PySem.evalArgs_none ⟨rfl, dd.typeIs, F.args_dict_values_1 _, _, meets_dict_values (mixKind X.prog X.w) d lo, ⟨vs, dd⟩, ?_⟩)
  refine Calls.spliced_nil ?_
  refine PySem.W.kdl_call (PySem.W.kdl_values (knd := mixKind X.prog X.w) (kvs := vs) (ep := ep)) (I1.ok.hd hc) ⟨⟨_, Heap.get?_push_size _ rfl, rfl, rfl⟩, hat.push _⟩ (by rw [← rel.length]; exact z) fun h' tk acc c' hk hD hacc => ?_
  have hv : Vals (kvs.map (·.2)) acc.toList := vals_kv rel (by rw [Array.length_toList]; exact hacc.1) fun j v e => hacc.2 j v (by rw [← Array.getElem?_toList]; exact e)
  refine ⟨.ref (s1.heap.push { cls := .type "dict_values", data := .fields #[.ref d] }).objs.size, upd H1 _ (.lst (kvs.map (·.2))), I2.laid (t' := tk) hk (Nat.le_refl _)
    (show ObjOk X.prog X.w _ _ _ (.lst (kvs.map (·.2))) from ⟨by rw [List.length_map]; exact z, acc.toList, c', hv, by rw [Array.toArray_toList]; exact hD⟩), rfl, q _ (I2.hok.fresh (Nat.le_refl _))⟩
end
theorem dc_run {J : It} {n : Nat} {D : Addr} {g : TG} {tt : TT} {tk tv : TE} {vs : List Nat} {σ : L2.St} {H1 : Hp} {Qd : Hp → Prop} (Pv : Nat → Hp → Prop) (h0 : Pv 0 (upd H1 D (.dK []))) (hgo : ∀ i H, i < n → Pv i H → J.go i H) (hst : ∀ H, Pv n H → J.stop n H)
    (hs : ∀ i x H H', i < n → Pv i H → J.yld i H x H' → g x (wipe σ vs) H' fun σ2 H2 => wipe σ2 vs = wipe σ vs ∧ tt σ2 H2 fun b H3 =>
      if b = true then tk σ2 H3 fun y H4 => tv σ2 H4 fun z H5 => ∃ kvs k, y = kV k ∧ H5 D = some (.dK kvs) ∧ kvs.length < sizeLine ∧ Pv (i + 1) (upd H5 D (.dK (putK kvs k z))) else Pv (i + 1) H3) (hd : ∀ H, Pv n H → Qd H) :
    ∃ W : Nat → Nat → Hp → Prop, (∃ m, W 0 m (upd H1 D (.dK []))) ∧ ∀ i m H, W i m H →
      (J.stop i H ∧ Qd H) ∨ (J.go i H ∧ ∃ Nx : Hp → Prop, (∀ H', Nx H' → ∃ m', m' < m ∧ W (i + 1) m' H') ∧ ∀ x H', J.yld i H x H' → g x (wipe σ vs) H' fun σ2 H2 => wipe σ2 vs = wipe σ vs ∧ tt σ2 H2 fun b H3 =>
        if b = true then tk σ2 H3 fun y H4 => tv σ2 H4 fun z H5 => ∃ kvs k, y = kV k ∧ H5 D = some (.dK kvs) ∧ kvs.length < sizeLine ∧ Nx (upd H5 D (.dK (putK kvs k z))) else Nx H3) := by
  refine ⟨fun i m H => m = n - i ∧ i ≤ n ∧ Pv i H, ⟨_, rfl, Nat.zero_le _, h0⟩, fun i m H ⟨em, hi, p⟩ => ?_⟩
  subst em
  by_cases lt : i < n
  · exact .inr ⟨hgo i H lt p, Pv (i + 1), fun H' p' => ⟨n - (i + 1), by omega, rfl, lt, p'⟩, fun x H' y => hs i x H H' lt p y⟩
  · have e : i = n := by omega
    subst e
    exact .inl ⟨hst H p, hd H p⟩
section
variable {X : Cx} {pins : List (Addr × Obj)} {σ : L2.St} {H : Hp} {s : Shared}
theorem run_fnRS {CX : CXT} {k : Nat} {f : Addr} {sp : Sp} {E : L2.St → XK} {Q : VK} {us : List Value} {vs : List V} (F : FnR X.prog X.w X.K X.mg X.base CX k f sp) (hr : Room k X.A) (hx : PassesAt CX X σ (E σ)) (I : Inv X pins σ H s) (r : Vals vs us) (h : sp vs H Q (E σ)) :
    codeAny (model X.prog X.w) X.A (.call (.ref f) ⟨us, []⟩) (fun r s' => match r with | .ok (.ret v) => EP X pins σ Q v s' | .ok _ => False | .error e => X.xe e s') s := by
  refine codeAny_mono (F X.A X.stack s H us vs Q (E σ) hr I.env0 r h) fun r s' hq => ?_
  cases r with
  | error e => exact hx pins H s e s' I hq
  | ok fl =>
    cases fl with
    | ret u => exact I.after hq
    | next => exact False.elim hq
    | brk => exact False.elim hq
    | cont => exact False.elim hq
end
section
variable {X : Cx} {CX : CXT} {k : Nat} {f C : Addr} {sp : Sp} {E : L2.St → XK} {m : Str} {pos apos : Pos} {e o : Expr} {es : List Expr} {ta : TE} {t : TA} {pl : Sem Bool}
theorem pe_methER (he : PE X o ta) (c : Cls X.K C) (hm : Meth X.K C m f) (F : FnR X.prog X.w X.K X.mg X.base CX k f sp) (hr : Room k X.A) (hx : ∀ σ, PassesAt CX X σ (E σ)) (ha : L2.PA X (e :: es) t)
    (hst : starEach (e :: es) X.env = (false, eval e X.env) :: starEach es X.env := by rfl) (hpl : (backTo pos (starEach es X.env)).any (·.1) = false := by rfl)
    (ht : eval (.Call (.Attribute o m apos) (e :: es) [] pos) X.env = (do
      let ov ← eval o X.env
      standAt apos.atName
      let (f, first) ← holding [ov] (getMethod ov m pl)
      callWith pos f first (backTo pos (starEach (e :: es) X.env)) (backToKw pos (keywordEach [] X.env))) := by rfl) :
    PE X (.Call (.Attribute o m apos) (e :: es) [] pos) (tMethE C m sp E ta t) := by
  refine ⟨fun pins s σ H Q I h => PySem.W.methodCall_KW (thn (he.run pins s σ H _ I h) fun u s1 ⟨x, H1, I1, rx, a, dx, fs, ex, ea, l, q⟩ => ?_) ht⟩
  subst ex
  obtain rfl : u = Value.ref a := rx
  refine getmeth_ok I1 ea c hm l ?_
  exact PySem.W.callWith_K (first := [.ref a]) (h₀ := X.base) I.ok.mod.kin hm.kp (thn (ha.run pos pins s1 σ H1 _ I1 q) fun us s2 ⟨vs, H2, I2, r, q2⟩ => ⟨I2.kIn, wpAny_call (run_fnRS (us := .ref a :: us) (vs := .ref a :: vs) F hr (hx σ) I2 (.cons rfl r) q2)⟩) hst hpl
def tMethE0 (C : Addr) (m : Str) (sp : Sp) (E : L2.St → XK) (ta : TE) : TE := fun σ H Q => ta σ H fun x H1 => ∃ a dx fs, x = .ref a ∧ H1 a = some (.ins C dx fs) ∧ fs.lookup m = none ∧ sp [x] H1 Q (E σ)
theorem pe_methER0 (he : PE X o ta) (c : Cls X.K C) (hm : Meth X.K C m f) (F : FnR X.prog X.w X.K X.mg X.base CX k f sp) (hr : Room k X.A) (hx : ∀ σ, PassesAt CX X σ (E σ))
    (ht : eval (.Call (.Attribute o m apos) [] [] pos) X.env = (do
      let ov ← eval o X.env
      standAt apos.atName
      let (f, first) ← holding [ov] (getMethod ov m pl)
      callWith pos f first (backTo pos (starEach [] X.env)) (backToKw pos (keywordEach [] X.env))) := by rfl) :
    PE X (.Call (.Attribute o m apos) [] [] pos) (tMethE0 C m sp E ta) := by
  refine ⟨fun pins s σ H Q I h => PySem.W.methodCall_KW (pl := pl) (thn (he.run pins s σ H _ I h) fun u s1 ⟨x, H1, I1, rx, a, dx, fs, ex, ea, l, q⟩ => ?_) ht⟩
  subst ex
  obtain rfl : u = Value.ref a := rx
  exact getmeth_ok I1 ea c hm l (PySem.W.callWith_K0 (first := [.ref a]) I1.kIn hm.kp (wpAny_call (run_fnRS (us := [.ref a]) (vs := [.ref a]) F hr (hx σ) I1 (.cons rfl .nil) q)))
end
section
variable {X : Cx}
/-- name = {k: v for ..} on one line, the name a local -/
theorem ps_setDc {i : Nat} {y : Str} {py : Pos} {kx vx tg iter : Expr} {ifs : List Expr} {scope : Scope} {own : List (Str × Nat)} {pos spos : Pos} {wi : TI} {g : TG} {tt : TT} {tk tv : TE} (hc : X.calm = true) (hN : X.N.Nodup) (hy : X.N[i]? = some y) (hyl : X.env.scope.names.lookup y = some .local)
    (hsw : swapsWith (.DictComp kx vx [⟨tg, iter, ifs, 0⟩] scope pos) (some (.Name y py)) spos.line X.env = pure true) (hi : PI X tg iter wi) (ok : BlkOk X.N X.env.scope scope own)
    (hg : ∀ (s : Shared) (H : Hp) (C : Addr) (cl : List (Str × Addr)) (fp : List Addr), PG (X.blk s H scope (compEnvC scope cl C X.env) fp) tg g) (ht : ∀ (s : Shared) (H : Hp) (C : Addr) (cl : List (Str × Addr)) (fp : List Addr), PTs (X.blk s H scope (compEnvC scope cl C X.env) fp) ifs tt)
    (hk : ∀ (s : Shared) (H : Hp) (C : Addr) (cl : List (Str × Addr)) (fp : List Addr), PE (X.blk s H scope (compEnvC scope cl C X.env) fp) kx tk)
    (he : ∀ (s : Shared) (H : Hp) (C : Addr) (cl : List (Str × Addr)) (fp : List Addr), PE (X.blk s H scope (compEnvC scope cl C X.env) fp) vx tv) (hs : ∀ x, foldedSetIterable iter X.env x = pure x := by intro _; rfl) :
    PS X (.Assign [.Name y py] (.DictComp kx vx [⟨tg, iter, ifs, 0⟩] scope pos) spos) (tAsg (tDc wi g tt tk tv (own.map (·.2))) (gName i)) := by
  refine ⟨fun pins s σ H D I h => ?_⟩
  rw [exec_Assign_Name_used _ _ _ _ hsw]
  refine wpAny_bind (wpAny_standAt (wpAny_bind ?_))
  show wpAny _ X.A (do let _ ← comprehension (.DictComp kx vx [⟨tg, iter, ifs, 0⟩] scope pos) scope X.env (firstIterPos [⟨tg, iter, ifs, 0⟩] pos) newDict false (eval iter X.env) (some (assign (.Name y py) X.env))) _ _ s
  have h : tDc wi g tt tk tv (own.map (·.2)) σ H (fun x H1 => gName i x σ H1 D.nx) := h
  refine wpAny_bind (thn (dc_core (Qf := fun _ s' => SP X pins D .next s') hc hN I hi ok hg ht hk he hs h fun L C s' m H' I' q hn f => ?_) fun _ s' hq => wpAny_pure (wpAny_pure hq))
  show wpAny _ _ (assign (.Name y py) X.env (.ref L)) _ _ _
  refine wpAny_assign_Name (store_ok2 (v := V.ref L) I' hN hy (.inl hyl) rfl (fun s2 I2 ⟨a, sb, ha⟩ => ?_) (.inr hyl))
  obtain ⟨f0, f1, f2, f3, f4, f5⟩ := f
  have haC : C ≠ a := by
    rcases ha with z | z
    · rw [z]; exact f1
    · exact fun e => f4 y a z e.symm
  refine ⟨m, hn.sameBut sb haC, fun h3 sb3 => ?_⟩
  exact ⟨_, H', I2.turned (t' := s2.toks) (fun b o hb e => (sb3.2 b hb).trans e) f0 f1 f3 f4 f5, q⟩
theorem sw_trueD {kx vx : Expr} {gs : List Comprehension} {scope : Scope} {pos py : Pos} {y : Str} {l : Nat} {env : Env} (hk : env.scope.kind = .function) (hy : env.scope.names.lookup y = some .local) (hl : (py.line == pos.line) = true)
    (ha : (scope.names.any fun (n, k) => n == y && (k == .local || k == .cell)) = false) : swapsWith (.DictComp kx vx gs scope pos) (some (.Name y py)) l env = pure true := by
  have ky : env.kindOf y = some .local := hy
  have hb : env.blockKind = .function := by unfold Env.blockKind; rw [hk]; rfl
  unfold swapsWith
  simp only [hb, ky, ha, Expr.pos, hl]
  rfl
end
end Yd
namespace Yd
open PySem L2
/-! ### walks, whatever is walked -/
theorem walk_run {J : It} {n : Nat} {H0 : Hp} {Qd : Hp → Prop} {Body : V → Hp → (Hp → Prop) → Prop} (Pv : Nat → Hp → Prop) (h0 : Pv 0 H0) (hgo : ∀ i H, i < n → Pv i H → J.go i H) (hst : ∀ H, Pv n H → J.stop n H)
    (hs : ∀ i x H H', i < n → Pv i H → J.yld i H x H' → Body x H' (Pv (i + 1))) (hd : ∀ H, Pv n H → Qd H) :
    ∃ W : Nat → Nat → Hp → Prop, (∃ m, W 0 m H0) ∧ ∀ i m H, W i m H → (J.stop i H ∧ Qd H) ∨ (J.go i H ∧ ∃ Nx : Hp → Prop, (∀ H', Nx H' → ∃ m', m' < m ∧ W (i + 1) m' H') ∧ ∀ x H', J.yld i H x H' → Body x H' Nx) := by
  refine ⟨fun i m H => m = n - i ∧ i ≤ n ∧ Pv i H, ⟨_, rfl, Nat.zero_le _, h0⟩, fun i m H ⟨em, hi, p⟩ => ?_⟩
  subst em
  by_cases lt : i < n
  · exact .inr ⟨hgo i H lt p, Pv (i + 1), fun H' p' => ⟨n - (i + 1), by omega, rfl, lt, p'⟩, fun x H' y => hs i x H H' lt p y⟩
  · have e : i = n := by omega
    subst e
    exact .inl ⟨hst H p, hd H p⟩
theorem for_run {J : It} {n : Nat} {σ0 : L2.St} {H0 : Hp} {Dn : L2.St → Hp → Prop} {Body : V → L2.St → Hp → (L2.St → Hp → Prop) → Prop} (Pv : Nat → L2.St → Hp → Prop) (h0 : Pv 0 σ0 H0) (hgo : ∀ i σ H, i < n → Pv i σ H → J.go i H) (hst : ∀ σ H, Pv n σ H → J.stop n H)
    (hs : ∀ i x σ H H', i < n → Pv i σ H → J.yld i H x H' → Body x σ H' (Pv (i + 1))) (hd : ∀ σ H, Pv n σ H → Dn σ H) :
    ∃ W : Nat → Nat → L2.St → Hp → Prop, (∃ m, W 0 m σ0 H0) ∧ ∀ i m σ H, W i m σ H → (J.stop i H ∧ Dn σ H) ∨ (J.go i H ∧ ∃ N : L2.St → Hp → Prop, (∀ σ' H', N σ' H' → ∃ m', m' < m ∧ W (i + 1) m' σ' H') ∧ ∀ x H', J.yld i H x H' → Body x σ H' N) := by
  refine ⟨fun i m σ H => m = n - i ∧ i ≤ n ∧ Pv i σ H, ⟨_, rfl, Nat.zero_le _, h0⟩, fun i m σ H ⟨em, hi, p⟩ => ?_⟩
  subst em
  by_cases lt : i < n
  · exact .inr ⟨hgo i σ H lt p, Pv (i + 1), fun σ' H' p' => ⟨n - (i + 1), by omega, rfl, lt, p'⟩, fun x H' y => hs i x σ H H' lt p y⟩
  · have e : i = n := by omega
    subst e
    exact .inl ⟨hst σ H p, hd σ H p⟩
/-! ### the class Site: how it is made -/
/-- a kind that a twin can be made of -/
structure KdFit (k : KD) : Prop where
  s0 : 0 < k.ss.length
  s10 : k.ss.length ≤ 10
  sl : ∀ s ∈ k.ss, s.length ≤ 100
  gd : Good k.ss k.R k.ng
  nl : k.nm.length ≤ 100
structure SCls (K : PySem.W.Frag) (C : Addr) : Prop where
  cls : Cls K C
  nK : NoAttr K C "_kinds"
  nS : NoAttr K C "_singles"
  nM : NoAttr K C "_manys"
  nO : NoAttr K C "_order"
def singlesN (ks : List KD) : List Str := (ks.filter (·.one)).map (·.nm)
def manysN (ks : List KD) : List Str := (ks.filter fun k => !k.one).map (·.nm)
def firstP (ks : List KD) : List Str := (ks.filter (·.one)).map fun k => k.ss.headD Str.empty
def kSpots (k : KD) : List Pr := k.ss.map fun s => (k.nm, s)
def allS (ks : List KD) : List Pr := ks.flatMap kSpots
def spotsL (ks : List KD) : List Pr := (ks.filter fun k => !k.one).flatMap kSpots
theorem filterK_more {ks : List KD} {i : Nat} {k : KD} {p : KD → Bool} (h : ks[i]? = some k) : (ks.take (i + 1)).filter p = (ks.take i).filter p ++ (if p k = true then [k] else []) := by
  rw [takeK h, List.filter_append]
  congr 1
  cases e : p k <;> simp [e]
theorem allS_more {ks : List KD} {i : Nat} {k : KD} (h : ks[i]? = some k) : allS (ks.take (i + 1)) = allS (ks.take i) ++ kSpots k := by
  unfold allS
  rw [takeK h, List.flatMap_append]
  simp
theorem kSpots_len (k : KD) : (kSpots k).length = k.ss.length := List.length_map _
theorem allS_len {ks : List KD} (h : ∀ k ∈ ks, k.ss.length ≤ 10) : (allS ks).length ≤ ks.length * 10 := by
  unfold allS
  induction ks with
  | nil => exact Nat.zero_le _
  | cons k ks ih =>
    have := ih fun q hq => h q (List.mem_cons_of_mem _ hq)
    have := h k (List.mem_cons_self ..)
    rw [List.flatMap_cons, List.length_append, kSpots_len, List.length_cons]
    omega
/-- where the things of a site stand: its kinds, its two dicts of standings, all standings -/
structure SD where
  k : Addr
  e1 : Addr
  e2 : Addr
  t : Addr
def SD.fp (d : SD) : List Addr := [d.k, d.e1, d.e2]
def SD.fs (d : SD) : List (Str × V) := [("_kinds", .ref d.k), ("_singles", .ref d.e1), ("_manys", .ref d.e2), ("_order", .ref d.t)]
/-- the tuples of the standings of these kinds -/
def TupsAt (H : Hp) (ts : List Addr) (ks : List KD) : Prop := ts.length = ks.length ∧ ∀ (i : Nat) (t : Addr) (k : KD), ts[i]? = some t → ks[i]? = some k → H t = some (.tup (k.ss.map V.str))
theorem TupsAt.keepT {H H' : Hp} {ts : List Addr} {ks : List KD} (h : TupsAt H ts ks) (s : ∀ b xs, H b = some (.tup xs) → H' b = some (.tup xs)) : TupsAt H' ts ks := ⟨h.1, fun i t k a b => s _ _ (h.2 i t k a b)⟩
theorem TupsAt.snoc {H : Hp} {ts : List Addr} {ks : List KD} {t : Addr} {k : KD} (h : TupsAt H ts ks) (e : H t = some (.tup (k.ss.map V.str))) : TupsAt H (ts ++ [t]) (ks ++ [k]) := ⟨by rw [List.length_append, List.length_append, h.1]; rfl, fun i u q a b => by
  by_cases c : i < ts.length
  · rw [List.getElem?_append_left c] at a
    rw [List.getElem?_append_left (by rw [← h.1]; exact c)] at b
    exact h.2 i u q a b
  · rw [List.getElem?_append_right (by omega)] at a
    rw [List.getElem?_append_right (by have := h.1; omega), ← h.1] at b
    generalize i - ts.length = j at a b
    match j, a, b with
    | 0, a, b =>
      cases a
      cases b
      exact e
    | _ + 1, a, _ => cases a⟩
theorem PairsAt.keepT {H H' : Hp} {ys : List V} {ps : List Pr} (h : PairsAt H ys ps) (s : ∀ b xs, H b = some (.tup xs) → H' b = some (.tup xs)) : PairsAt H' ys ps := h.keep s
structure SiteAt (H : Hp) (n : Kn) (CS s : Addr) (d : SD) (xs : List PX) (ks : List KD) : Prop where
  ins : ∃ dx, H s = some (.ins CS dx d.fs)
  dict : H d.k = some (.dK (dP (ks.map (·.nm)) (xs.map (·.a))))
  parts : PartsAt H n xs ks
  nd : (ks.map (·.nm)).Nodup
  no : ∀ x ∈ xs, d.k ∉ x.fp
  one : ∃ ts, H d.e1 = some (.dK (dP (singlesN ks) ts)) ∧ TupsAt H ts (ks.filter (·.one))
  many : ∃ ts, H d.e2 = some (.dK (dP (manysN ks) ts)) ∧ TupsAt H ts (ks.filter fun k => !k.one)
  order : ∃ ys, H d.t = some (.tup ys) ∧ PairsAt H ys (allS ks)
theorem SiteAt.keepL {H H' : Hp} {n : Kn} {CS s : Addr} {d : SD} {xs : List PX} {ks : List KD} (h : SiteAt H n CS s d xs ks) (k : ∀ b o, H b = some o → (∀ xs, o ≠ .lst xs) → H' b = some o) : SiteAt H' n CS s d xs ks :=
  have kt : ∀ b xs, H b = some (.tup xs) → H' b = some (.tup xs) := fun b xs e => k _ _ e (fun _ z => nomatch z)
  ⟨let ⟨dx, e⟩ := h.ins; ⟨dx, k _ _ e (fun _ z => nomatch z)⟩, k _ _ h.dict (fun _ z => nomatch z), h.parts.keepL k, h.nd, h.no, let ⟨ts, e, q⟩ := h.one; ⟨ts, k _ _ e (fun _ z => nomatch z), q.keepT kt⟩,
    let ⟨ts, e, q⟩ := h.many; ⟨ts, k _ _ e (fun _ z => nomatch z), q.keepT kt⟩, let ⟨ys, e, q⟩ := h.order; ⟨ys, kt _ _ e, q.keepT kt⟩⟩
theorem SiteAt.keep {H H' : Hp} {n : Kn} {CS s : Addr} {d : SD} {xs : List PX} {ks : List KD} (h : SiteAt H n CS s d xs ks) (k : Same H H') : SiteAt H' n CS s d xs ks := h.keepL fun b o e _ => k b o e
theorem PartsAt.off {H H' : Hp} {n : Kn} {d : Addr} (g : Gro d H H') (hd : ∃ kvs, H d = some (.dK kvs)) : ∀ {xs : List PX} {ks : List KD}, PartsAt H n xs ks → (∀ x ∈ xs, d ∉ x.fp) → PartsAt H' n xs ks
  | [], [], _, _ => True.intro
  | x :: xs, k :: ks, ⟨h, q, r⟩, m => by
    have m0 := m x (List.mem_cons_self ..)
    unfold PX.fp at m0
    simp only [List.mem_cons, not_or] at m0
    exact ⟨⟨h.pa.off g hd m0.1 m0.2.1 m0.2.2, h.m⟩, q, PartsAt.off g hd r fun y hy => m y (List.mem_cons_of_mem _ hy)⟩
  | [], _ :: _, h, _ => h.elim
  | _ :: _, [], h, _ => h.elim
/-- an instance that is being made changes -/
theorem PartAt.ins {H H' : Hp} {n : Kn} {x : PX} {k : KD} {a C dx : Addr} {fs : List (Str × V)} (h : PartAt H n x k) (ha : H a = some (.ins C dx fs)) (hf : fs.lookup ("name" : Str) = none) (g : Gro a H H') : PartAt H' n x k := by
  have na : x.a ≠ a := fun e => by
    have q := h.pa.at_
    rw [e, ha] at q
    have l := fs_name k.nm x.ds x.dd
    injection q with q
    injection q with _ _ q
    rw [← q, hf] at l
    cases l
  have p := h.pa
  refine ⟨⟨g _ _ p.at_ na, ⟨g _ _ p.S.d (ne_of p.S.d ha (fun z => nomatch z)), p.S.len, p.S.nd, p.S.ed, p.S.no, fun i e s h1 h2 => ?_⟩, p.D.keepT (g _ _ p.D.d (ne_of p.D.d ha (fun z => nomatch z))) fun b xs e => g _ _ e (ne_of e ha (fun z => nomatch z)), p.n1, p.n2⟩, h.m⟩
  obtain ⟨kvs, q, r⟩ := p.S.at_ i e s h1 h2
  exact ⟨kvs, g _ _ q (ne_of q ha (fun z => nomatch z)), r⟩
theorem PartsAt.ins {H H' : Hp} {n : Kn} {a C dx : Addr} {fs : List (Str × V)} (ha : H a = some (.ins C dx fs)) (hf : fs.lookup ("name" : Str) = none) (g : Gro a H H') : ∀ {xs : List PX} {ks : List KD}, PartsAt H n xs ks → PartsAt H' n xs ks
  | [], [], _ => True.intro
  | _ :: _, _ :: _, ⟨h, q, r⟩ => ⟨h.ins ha hf g, q, PartsAt.ins ha hf g r⟩
  | [], _ :: _, h => h.elim
  | _ :: _, [], h => h.elim
/-- every part is what it is said to be, one by one -/
def EachAt (H : Hp) (n : Kn) (xs : List PX) (ks : List KD) : Prop := xs.length = ks.length ∧ ∀ (i : Nat) (x : PX) (k : KD), xs[i]? = some x → ks[i]? = some k → PartAt H n x k
theorem PartsAt.each {H : Hp} {n : Kn} {xs : List PX} {ks : List KD} (h : PartsAt H n xs ks) : EachAt H n xs ks := ⟨h.len, fun i x k hx hk => by
  obtain ⟨x', e, q⟩ := h.get hk
  rw [hx] at e
  cases e
  exact q⟩
theorem EachAt.keep {H H' : Hp} {n : Kn} {xs : List PX} {ks : List KD} (h : EachAt H n xs ks) (s : Same H H') : EachAt H' n xs ks := ⟨h.1, fun i x k hx hk => (h.2 i x k hx hk).keep s⟩
/-- the parts of one sort -/
def pick (p : KD → Bool) : List PX → List KD → List PX
  | x :: xs, k :: ks => if p k = true then x :: pick p xs ks else pick p xs ks
  | _, _ => []
theorem pick_each {H : Hp} {n : Kn} {p : KD → Bool} : ∀ {xs : List PX} {ks : List KD}, PartsAt H n xs ks → EachAt H n (pick p xs ks) (ks.filter p)
  | [], [], _ => ⟨rfl, fun i x k a _ => nomatch a⟩
  | x :: xs, k :: ks, ⟨h, _, r⟩ => by
    have ih := pick_each (p := p) r
    unfold pick
    by_cases c : p k = true
    · rw [if_pos c, List.filter_cons, if_pos c]
      refine ⟨by rw [List.length_cons, List.length_cons, ih.1], fun i y q a b => ?_⟩
      match i, a, b with
      | 0, a, b =>
        cases a
        cases b
        exact h
      | i + 1, a, b => exact ih.2 i y q a b
    · rw [if_neg c, List.filter_cons, if_neg c]
      exact ih
  | [], _ :: _, h => h.elim
  | _ :: _, [], h => h.elim
theorem pick_len (p : KD → Bool) : ∀ (xs : List PX) (ks : List KD), (pick p xs ks).length ≤ xs.length
  | [], _ => Nat.zero_le _
  | _ :: _, [] => Nat.zero_le _
  | x :: xs, k :: ks => by
    have := pick_len p xs ks
    unfold pick
    by_cases c : p k = true
    · rw [if_pos c]; simpa using this
    · rw [if_neg c]; exact Nat.le_succ_of_le this
theorem pick_more {p : KD → Bool} : ∀ {xs : List PX} {ks : List KD} {i : Nat} {x : PX} {k : KD}, xs[i]? = some x → ks[i]? = some k → pick p (xs.take (i + 1)) (ks.take (i + 1)) = pick p (xs.take i) (ks.take i) ++ (if p k = true then [x] else [])
  | [], _, _, _, _, h, _ => by simp at h
  | _ :: _, [], _, _, _, _, h => by simp at h
  | y :: ys, q :: qs, 0, x, k, h1, h2 => by
    cases h1
    cases h2
    show pick p [y] [q] = [] ++ _
    unfold pick
    rw [show pick p [] [] = [] from rfl, List.nil_append]
  | y :: ys, q :: qs, i + 1, x, k, h1, h2 => by
    have ih := pick_more (p := p) (xs := ys) (ks := qs) (i := i) (x := x) (k := k) (by simpa using h1) (by simpa using h2)
    show pick p (y :: ys.take (i + 1)) (q :: qs.take (i + 1)) = pick p (y :: ys.take i) (q :: qs.take i) ++ _
    unfold pick
    rw [ih]
    by_cases c : p q = true
    · rw [if_pos c, if_pos c]; rfl
    · rw [if_neg c, if_neg c]
theorem unlock_same {H H' : Hp} {d : Addr} {u : HO} {od : Obj} (hd : H d = some u) (sm : Same (upd H d (.frz od u)) H') : Same H (upd H' d u) := same_unlock hd fun q o e n => sm q o (by rw [upd_ne n]; exact e)
/-- what a key of such a dict leads to -/
theorem dP_part {xs : List PX} {ks : List KD} (l : (ks.map (·.nm)).length = (xs.map (·.a)).length) {i : Nat} {k : Key} {v : V} (e : (dP (ks.map (·.nm)) (xs.map (·.a)))[i]? = some (k, v)) : ∃ x kd, xs[i]? = some x ∧ ks[i]? = some kd ∧ k = Sum.inr kd.nm ∧ v = .ref x.a := by
  obtain ⟨y, t, hy, ht, rfl, rfl⟩ := dP_key l e
  rw [List.getElem?_map] at hy ht
  obtain ⟨kd, e1, rfl⟩ := Option.map_eq_some_iff.mp hy
  obtain ⟨x, e2, rfl⟩ := Option.map_eq_some_iff.mp ht
  exact ⟨x, kd, e2, e1, rfl, rfl⟩
theorem part_ty {P : Program} {w : World} {K : PySem.W.Frag} {mg : Str → Option Value} {base : Heap} {n : Kn} {H : Hp} {x : PX} {k : KD} (h : PartAt H n x k) (E : KEnv P w K mg base n) : TyX K H (.ref x.a) (.ref (n.cls k.one)) := by
  obtain ⟨fR, fW, dW, pk, _⟩ := (E.c k.one).ex
  exact .base (.ins h.pa.at_ pk.pc.cls (E.c k.one).ca (E.c k.one).cn (E.c k.one).ct (E.c k.one).cm)
def spStOf (K : PySem.W.Frag) (n : Kn) : Sp := fun vs H Q _ => ∃ (l : Addr) (xs : List PX) (ks : List KD), vs = [.ref l] ∧ SqL K H l (refsP xs) ∧ EachAt H n xs ks ∧ (ks.map (·.nm)).Nodup ∧ ks.length ≤ 60 ∧
  ∀ (e : Addr) (ts : List Addr) (H' : Hp), Same H H' → H e = none → H' e = some (.dK (dP (ks.map (·.nm)) ts)) → TupsAt H' ts ks → Q (.ref e) H'
def spSInit (K : PySem.W.Frag) (n : Kn) : Sp := fun vs H Q E => ∃ (a C dx l : Addr) (xs : List PX) (ks : List KD), vs = [.ref a, .ref l] ∧ H a = some (.ins C dx []) ∧ SCls K C ∧ SqL K H l (refsP xs) ∧ EachAt H n xs ks ∧ (∀ k ∈ ks, KdFit k) ∧ ks.length ≤ 60 ∧
  (∀ (i : Nat) (k : KD), ks[i]? = some k → k.nm ∈ (ks.take i).map (·.nm) → ((ks.take i).map (·.nm)).Nodup → ∀ d H', Gro a H H' → H d = none → H' d = some (.xd (fsRepeated [.str k.nm])) → E (.ref n.CR) (some d) H') ∧
  ((ks.map (·.nm)).Nodup → ∀ (d : SD) (ys : List PX) (H' : Hp), (∀ b ∈ d.fp, H b = none) → Gro a H H' → SiteAt H' n C a d ys ks → (∀ y ∈ ys, ∀ b ∈ y.fp, H b = none) → Q .non H')
section
variable {P : Program} {w : World} {K : PySem.W.Frag} {mg : Str → Option Value} {base : Heap}
theorem PartAt.stands {n : Kn} {H : Hp} {x : PX} {k : KD} (h : PartAt H n x k) (E : KEnv P w K mg base n) {Q : VK} (q : ∀ t, H t = none → Q (.ref t) (upd H t (.tup (k.ss.map V.str)))) :
    ∃ (a C dx : Addr) (fs : List (Str × V)) (g : Addr) (gd : FuncData) (sp : Sp), V.ref x.a = .ref a ∧ H a = some (.ins C dx fs) ∧ fs.lookup ("standings" : Str) = none ∧ Cls K C ∧ Meth K C "standings" g ∧ FnOk P w K mg base CX0 1 g gd ["self"] sp ∧ Binds K gd ["self"] [] ∧ sp [.ref a] H Q E0 := by
  obtain ⟨fR, fW, dW, pk, _⟩ := (E.c k.one).ex
  obtain ⟨dS, GS, bS⟩ := E.st
  exact ⟨x.a, _, x.dx, _, n.S, dS, _, rfl, h.pa.at_, fs_no _ _ _ (by decide +kernel) (by decide +kernel) (by decide +kernel), pk.k.cls, pk.k.mS, GS, bS, x.a, _, n.A, n.S, n.F, k.ss, k.R, x.m, rfl, pk.k, h.pa.kind, q⟩

def nStOf : List Str := ["kinds", "kind"]
theorem scStOf : FnScope nStOf ["kinds"] (defScope sStandingsOf) := ⟨rfl, rfl, rfl, by decide +kernel, rfl, by decide +kernel, by decide +kernel⟩
theorem ok_stOf {f : Addr} {fd : FuncData} {n : Kn} (F : Fun K "standings_of" "standings_of" sStandingsOf f fd) (E : KEnv P w K mg base n) : FnOk P w K mg base CX0 2 f fd ["kinds"] (spStOf K n) := by
  refine F.ok scStOf (fun vs H Q E h => ?_) (fun cdv A outer s H vs Q E' hr h => ?_)
  · obtain ⟨l, xs, ks, rfl, _⟩ := h
    rfl
  · obtain ⟨l, xs, ks, rfl, hl, hxs, nd, k60, k⟩ := h
    have r1 : Room 1 _ := hr.mono (by decide)
    refine ⟨_, pss_one (ps_ret (pe_dc (own := [("kind", 1)]) (g := gName 1) (tt := tYes) (tk := tFld K (tVar 1) "name") (tv := tDyn P w K mg base 1 "standings" (tVar 1)) rfl scStOf.nd (pi_list (pv 0)) (blkOk_by (N := nStOf) (sc := defScope sStandingsOf) (by decide +kernel))
      (fun _ _ _ _ _ => pg_name (i := 1) scStOf.nd rfl (Or.inl rfl)) (fun _ _ _ _ _ => pts_nil) (fun _ _ _ _ _ => pe_fld (pv 1) rfl) (fun _ _ _ _ _ => pe_dyn (pv 1) r1))), ?_⟩
    refine ⟨_, rfl, l, rfl, ⟨_, hl⟩, fun D hD => ?_⟩
    refine dc_list (K := K) (a := l) (xs := refsP xs) (fun i H' => Same H H' ∧ ∃ ts, H' D = some (.dK (dP ((ks.take i).map (·.nm)) ts)) ∧ TupsAt H' ts (ks.take i)) ⟨same_new hD, [], upd_same, rfl, fun i t k a _ => nomatch a⟩ (fun i H' _ h => h.1.seq hl) ?_ ?_
    · rintro i y H' hi ⟨s1, ts, e1, tt⟩
      obtain ⟨x, hx, rfl⟩ := refsP_at hi
      obtain ⟨kd, hk⟩ : ∃ k, ks[i]? = some k := ⟨_, List.getElem?_eq_getElem (by have := (List.getElem?_eq_some_iff.mp hx).1; have := hxs.1; omega)⟩
      have px := (hxs.2 i x kd hx hk).keep s1
      obtain ⟨fR, fW, dW, pk, mW, GW, bW⟩ := (E.c kd.one).ex
      have tl : ((ks.take i).map (·.nm)).length = ts.length := by rw [List.length_map, tt.1]
      have hm : kd.nm ∉ (ks.take i).map (·.nm) := fun m => by
        obtain ⟨q, hq, e⟩ := List.mem_map.mp m
        obtain ⟨j, hj⟩ := List.mem_iff_getElem?.mp hq
        have hji : j < i := by
          have := (List.getElem?_eq_some_iff.mp hj).1
          rw [List.length_take] at this
          omega
        rw [List.getElem?_take_of_lt hji] at hj
        have h1 : (ks.map (·.nm))[i]? = some kd.nm := by rw [List.getElem?_map, hk]; rfl
        have h2 : (ks.map (·.nm))[j]? = some kd.nm := by rw [List.getElem?_map, hj, ← e]; rfl
        exact absurd (nd_ix nd h1 h2) (by omega)
      refine ⟨rfl, _, rfl, x.a, _, x.dx, _, _, rfl, px.pa.at_, pk.pc.cls, pk.pc.nN, fs_name _ _ _, _, rfl, px.stands E fun t ht => ?_⟩
      have s2 := same_new (o := .tup (kd.ss.map V.str)) ht
      have et : upd H' t (.tup (kd.ss.map V.str)) t = some (.tup (kd.ss.map V.str)) := upd_same
      have e2 := s2 _ _ e1
      have t2 := tt.keepT fun b xs e => s2 _ _ e
      have s12 := s1.trans s2
      generalize upd H' t (.tup (kd.ss.map V.str)) = H3 at s2 et e2 t2 s12 ⊢
      refine ⟨_, Sum.inr kd.nm, rfl, e2, small1000 (by rw [dP_len tl, List.length_map, List.length_take]; omega), fun b o e => by rw [upd_ne (ne_of_none e hD)]; exact s12 b o e, ts ++ [t], ?_, ?_⟩
      · rw [upd_same, takeK hk, List.map_append]
        show some (HO.dK _) = some (HO.dK (dP (_ ++ [kd.nm]) _))
        rw [dP_snoc tl, putK_new _ (dP_none hm)]
      · rw [takeK hk]
        have tk : ∀ b xs, H3 b = some (.tup xs) → upd H3 D (.dK (putK (dP ((ks.take i).map (·.nm)) ts) (Sum.inr kd.nm) (.ref t))) b = some (.tup xs) := fun b xs e => by rw [upd_ne (ne_of e e2 (fun z => nomatch z))]; exact e
        exact (t2.keepT tk).snoc (tk _ _ et)
    · rintro H' ⟨s1, ts, e1, tt⟩
      have e : ks.take (refsP xs).length = ks := by
        unfold refsP
        rw [List.length_map, hxs.1, List.take_length]
      rw [e] at e1 tt
      exact k D ts H' s1 hD e1 tt
def nSInit : List Str := ["self", "kinds", "kind", "name", "standing"]
theorem scSInit : FnScope nSInit ["self", "kinds"] (defScope sSiteInit) := ⟨rfl, rfl, rfl, by decide +kernel, rfl, by decide +kernel, by decide +kernel⟩
theorem ok_sInit {f : Addr} {fd : FuncData} {n : Kn} (F : Fun K "__init__" "Site.__init__" sSiteInit f fd) (E : KEnv P w K mg base n) (O : ErrOk P w K mg base "Repeated" n.CR 1 okRepeated fsRepeated) (hT : mg "tuple" = none) (hI : mg "isinstance" = none) {fT : Addr} {dT : FuncData} (T : Fn K mg "standings_of" sStandingsOf ["kinds"] fT dT) :
    FnOk P w K mg base (L2.CX P w) 8 f fd ["self", "kinds"] (spSInit K n) := by
  refine F.okX scSInit (fun vs H Q E h => ?_) (fun cdv A outer s H vs Q E' hr h => ?_)
  · obtain ⟨a, C, dx, l, xs, ks, rfl, _⟩ := h
    rfl
  · obtain ⟨a, C, dx, l, xs, ks, rfl, ha, sc, hl, hxs, fit, k60, kR, kN⟩ := h
    have hu := hu_of hr
    have r1 : Room 1 _ := hr.mono (by decide)
    have r2 : Room 2 _ := hr.mono (by decide)
    have GT : FnOk P w K mg base CX0 2 fT dT ["kinds"] (spStOf K n) := ok_stOf T.F E
    refine ⟨_, pss_cons (ps_fld (pv 0) pe_dnewK rfl)
      (pss_cons (ps_for (passes_of rfl) rfl (pi_list (pv 1)) (pg_name (i := 2) scSInit.nd rfl (Or.inl rfl))
        (pss_cons (ps_if (pt_cmp (pc_din hu (pe_fld (pv 2) rfl) (pe_fld (pv 0) rfl))) (pss_one (ps_raise rfl (takes_of rfl rfl rfl rfl) (pmk_err O r2 rfl (pa_cons (pe_fld (pv 2) rfl) pa_nil)))) pss_nil)
        (pss_one (ps_dput hu (pe_fld (pv 0) rfl) (pe_fld (pv 2) rfl) (pe_dyn (pv 2) hr) rfl))))
      (pss_cons (ps_fld (pv 0) (pe_call GT r2 rfl T.g T.F.kp T.b .nil pass0 (pa_cons (pe_lock (pe_lc (own := [("kind", 2)]) (g := gName 2) (tt := tTest (tCB (rIsi K) (tCons (tVar 2) (tCons (tC (.ref n.CI)) tNil)))) (te := tVar 2) rfl scSInit.nd
          (pi_values (pe_fld (pv 0) rfl)) (blkOk_by (N := nSInit) (sc := defScope sSiteInit) (by decide +kernel)) (fun _ _ _ _ _ => pg_name (i := 2) scSInit.nd rfl (Or.inl rfl))
          (fun _ _ _ _ _ => pts_one (pt_val (pe_callB (r := rIsi K) call_isi (by rfl) hI (by decide +kernel) (pa_cons (pv 2) (pa_cons (pe_glob (v := .ref n.CI) (by rfl) E.gI rfl) pa_nil))))) (fun _ _ _ _ _ => pv 2))) pa_nil)) rfl)
      (pss_cons (ps_fld (pv 0) (pe_call GT r2 rfl T.g T.F.kp T.b .nil pass0 (pa_cons (pe_lock (pe_lc (own := [("kind", 2)]) (g := gName 2) (tt := tTest (tCB (rIsi K) (tCons (tVar 2) (tCons (tC (.ref n.CM)) tNil)))) (te := tVar 2) rfl scSInit.nd
          (pi_values (pe_fld (pv 0) rfl)) (blkOk_by (N := nSInit) (sc := defScope sSiteInit) (by decide +kernel)) (fun _ _ _ _ _ => pg_name (i := 2) scSInit.nd rfl (Or.inl rfl))
          (fun _ _ _ _ _ => pts_one (pt_val (pe_callB (r := rIsi K) call_isi (by rfl) hI (by decide +kernel) (pa_cons (pv 2) (pa_cons (pe_glob (v := .ref n.CM) (by rfl) E.gM rfl) pa_nil))))) (fun _ _ _ _ _ => pv 2))) pa_nil)) rfl)
      (pss_one (ps_fld (pv 0) (pe_callTy call_tuple_of (by rfl) hT (by decide +kernel) (pa_cons (pe_lock (pe_lc2 (own := [("kind", 2), ("name", 3), ("standing", 4)]) (vs1 := [4]) (g := gTup K 2 (gCons (gName 3) (gCons (gName 2) gNil))) (tt := tYes) (wi1 := iTup K (tDyn P w K mg base 1 "standings" (tVar 2))) (g1 := gName 4) (tt1 := tYes) (te := tTup (tCons (tVar 3) (tCons (tVar 4) tNil))) rfl scSInit.nd
        (pi_items (pe_fld (pv 0) rfl)) (blkOk_by (N := nSInit) (sc := defScope sSiteInit) (by decide +kernel)) (by decide)
        (fun _ _ _ _ _ => pg_tup (by rfl) (pgs_cons (pg_name (i := 3) scSInit.nd rfl (Or.inl rfl)) (pgs_cons (pg_name (i := 2) scSInit.nd rfl (Or.inl rfl)) pgs_nil)))
        (fun _ _ _ _ _ => pts_nil) (fun _ _ _ _ _ => pi_tup (pe_dyn (pv 2) r1)) (fun _ _ _ _ _ => pg_name (i := 4) scSInit.nd rfl (Or.inl rfl)) (fun _ _ _ _ _ => pts_nil)
        (fun _ _ _ _ _ => pe_tup (pa_cons (pv 3) (pa_cons (pv 4) pa_nil))))) pa_nil)) rfl))))), ?_⟩
    intro d hd
    have nad : a ≠ d := ne_of_none ha hd
    refine ⟨_, rfl, a, C, dx, [], rfl, (by rw [upd_ne nad]; exact ha), sc.cls, sc.nK, by decide, ?_⟩
    generalize hH1 : upd (upd H d (.dK [])) a (.ins C dx (putF "_kinds" (.ref d) [])) = H1
    have g1 : Gro a H H1 := fun b o q n => by rw [← hH1, upd_ne n, upd_ne (ne_of_none q hd)]; exact q
    have e1 : H1 a = some (.ins C dx [("_kinds", .ref d)]) := by rw [← hH1, upd_same]; rfl
    have d1 : H1 d = some (.dK []) := by rw [← hH1, upd_ne nad.symm, upd_same]
    have hla : ∀ H' : Hp, Gro a H H' → SqL K H' l (refsP xs) := fun H' g => by
      rcases hl with (h | ⟨o, h⟩) | h
      · exact .inl (.inl (g _ _ h (ne_of h ha (by intro z; cases z))))
      · exact .inl (.inr ⟨o, g _ _ h (ne_of h ha (by intro z; cases z))⟩)
      · exact .inr h
    refine ⟨_, rfl, l, rfl, ⟨_, hla _ g1⟩, for_list (K := K) (a := l) (xs := refsP xs)
      (fun i σ H' => ∃ (v : Option V) (ys : List PX), σ = [some (.ref a), some (.ref l), v, none, none] ∧ Gro a H H' ∧ H' a = some (.ins C dx [("_kinds", .ref d)]) ∧ H' d = some (.dK (dP ((ks.take i).map (·.nm)) (ys.map (·.a)))) ∧ PartsAt H' n ys (ks.take i) ∧
        (∀ y ∈ ys, ∀ b ∈ y.fp, H b = none) ∧ (∀ y ∈ ys, d ∉ y.fp) ∧ ((ks.take i).map (·.nm)).Nodup)
      ⟨none, [], rfl, g1, e1, d1, True.intro, fun _ h => (nomatch h), fun _ h => (nomatch h), List.nodup_nil⟩
      (fun i σ H' _ ⟨_, _, _, g, _⟩ => hla _ g) ?_ ?_⟩
    · rintro i y σ H' hi ⟨v, ys, rfl, g, ea, ed, hys, fr, nod, nd⟩
      obtain ⟨x, hx, rfl⟩ := refsP_at hi
      obtain ⟨k, hk⟩ : ∃ k, ks[i]? = some k := ⟨_, List.getElem?_eq_getElem (by have := (List.getElem?_eq_some_iff.mp hx).1; have := hxs.1; omega)⟩
      have px := (hxs.2 i x k hx hk).ins ha rfl g
      have ft := fit k (List.mem_of_getElem? hk)
      obtain ⟨fR, fW, dW, pk, mW, GW, bW⟩ := (E.c k.one).ex
      have yl : ((ks.take i).map (·.nm)).length = (ys.map (·.a)).length := by rw [List.length_map, List.length_map, hys.len]
      refine ⟨_, rfl, x.a, _, x.dx, _, _, rfl, px.pa.at_, pk.pc.cls, pk.pc.nN, fs_name _ _ _, _, rfl, a, C, dx, _, _, rfl, ea, sc.cls, sc.nK, rfl, d, _, rfl, DGet.k (k := Sum.inr k.nm) ed, _, rfl, ?_⟩
      rw [dP_is nd yl]
      refine ite2 (fun hm => ?_) (fun hm => ?_)
      · have hm := of_decide_eq_true hm
        refine ⟨_, rfl, x.a, _, x.dx, _, _, rfl, px.pa.at_, pk.pc.cls, pk.pc.nN, fs_name _ _ _, err_read rfl (by decide) ⟨_, rfl, ft.nl⟩ fun e H2 s2 he hx => ?_⟩
        exact kR i k hk hm nd e H2 (fun b o q n => s2 _ _ (g b o q n)) (by
          by_cases q : e = a
          · rw [q, ea] at he; cases he
          · exact g.free he q) hx
      · have hm : k.nm ∉ (ks.take i).map (·.nm) := fun q => hm (decide_eq_true q)
        refine ⟨_, rfl, x.a, _, x.dx, _, fW, dW, _, rfl, px.pa.at_, fs_no _ _ _ (by decide +kernel) (by decide +kernel) (by decide +kernel), pk.k.cls, mW, GW, bW, x.a, x.dx, k.nm, x.ds, x.dd, k.ss, x.es, x.ts, k.R, x.m, k.ng, rfl, px.pa, pk, ft.gd, ft.s0, ft.s10, ft.sl,
          fun a2 dx2 ds2 dd2 es2 ts2 m2 H2 q7 y1 y2 y3 y4 pb hm2 => ?_⟩
        have ea2 := q7 _ _ ea
        have ed2 := q7 _ _ ed
        refine ⟨_, rfl, a, C, dx, _, _, rfl, ea2, sc.cls, sc.nK, rfl, _, rfl, x.a, _, x.dx, _, _, rfl, q7 _ _ px.pa.at_, pk.pc.cls, pk.pc.nN, fs_name _ _ _, d, _, rfl, DPut.k (k := Sum.inr k.nm) ed2 (small1000 (by rw [dP_len yl, List.length_map, List.length_take]; omega)), ?_⟩
        have nd2 : a2 ≠ d := fun q => by rw [q, ed] at y1; cases y1
        have gd : Gro d H2 (upd H2 d (.dK (putK (dP ((ks.take i).map (·.nm)) (ys.map (·.a))) (Sum.inr k.nm) (.ref a2)))) := .own
        have yfp : ∀ b ∈ ds2 :: dd2 :: es2, H' b = none := fun b hb => by
          rcases List.mem_cons.mp hb with rfl | hb
          · exact y2
          · rcases List.mem_cons.mp hb with rfl | hb
            · exact y3
            · exact y4 b hb
        have dno : ∀ b ∈ ds2 :: dd2 :: es2, d ≠ b := fun b hb q => by
          have z := yfp b hb
          rw [← q, ed] at z
          cases z
        have nod' : ∀ y ∈ ys ++ [(⟨a2, dx2, ds2, dd2, es2, ts2, m2⟩ : PX)], d ∉ y.fp := fun y hy hb => by
          rcases List.mem_append.mp hy with hy | hy
          · exact nod y hy hb
          · rw [List.mem_singleton.mp hy] at hb
            exact dno d hb rfl
        refine ⟨_, ys ++ [⟨a2, dx2, ds2, dd2, es2, ts2, m2⟩], rfl, fun b o q n => ?_, ?_, ?_, ?_, fun y hy b hb => ?_, nod', ?_⟩
        · rw [upd_ne (ne_of_none q hd)]
          exact q7 _ _ (g b o q n)
        · rw [upd_ne nad]; exact ea2
        · rw [upd_same, takeK hk, List.map_append, List.map_append]
          show some (HO.dK _) = some (HO.dK (dP (_ ++ [k.nm]) (_ ++ [a2])))
          rw [dP_snoc yl, putK_new _ (dP_none hm)]
        · refine PartsAt.off gd ⟨_, ed2⟩ ?_ nod'
          rw [takeK hk]
          refine PartsAt.snoc ⟨pb, hm2⟩ (hys.keep q7) fun y hy b hb hb' => ?_
          obtain ⟨o, e⟩ := hys.tracked y hy b hb
          rw [yfp b hb'] at e
          cases e
        · rcases List.mem_append.mp hy with hy | hy
          · exact fr y hy b hb
          · rw [List.mem_singleton.mp hy] at hb
            have z := yfp b hb
            refine g.free z fun q => ?_
            rw [q, ea] at z
            cases z
        · rw [takeK hk, List.map_append]
          exact nd_snoc nd hm
    · rintro σ H' ⟨v, ys, rfl, g, ea, ed, hys, fr, nod, nd⟩
      have e : ks.take (refsP xs).length = ks := by
        unfold refsP
        rw [List.length_map, hxs.1, List.take_length]
      rw [e] at nd hys ed
      have l60 : ys.length ≤ 60 := by rw [hys.len]; exact k60
      have yl : (ks.map (·.nm)).length = (ys.map (·.a)).length := by rw [List.length_map, List.length_map, hys.len]
      have dl : (dP (ks.map (·.nm)) (ys.map (·.a))).length = ks.length := by rw [dP_len yl, List.length_map]
      have nds : (singlesN ks).Nodup := nd.sublist (List.Sublist.map _ (List.filter_sublist ..))
      have ndm : (manysN ks).Nodup := nd.sublist (List.Sublist.map _ (List.filter_sublist ..))
      have ed0 := ed
      have ea0 := ea
      have ps0 := hys
      generalize eH0 : H' = H0 at g ed0 ea0 ps0 ⊢
      -- the single kinds
      refine ⟨d, _, ed0, True.intro, fun od => ?_⟩
      have hp0 : PartsAt (upd H0 d (.frz od (.dK (dP (ks.map (·.nm)) (ys.map (·.a)))))) n ys ks := PartsAt.off .own ⟨_, ed0⟩ ps0 nod
      have es0 : upd H0 d (.frz od (.dK (dP (ks.map (·.nm)) (ys.map (·.a))))) a = some (.ins C dx [("_kinds", .ref d)]) := by rw [upd_ne nad]; exact ea0
      have el0 : upd H0 d (.frz od (.dK (dP (ks.map (·.nm)) (ys.map (·.a))))) d = _ := upd_same
      have fin0 : ∀ {H2}, Same (upd H0 d (.frz od (.dK (dP (ks.map (·.nm)) (ys.map (·.a)))))) H2 → Same H0 (upd H2 d _) := fun sm => unlock_same ed0 sm
      generalize upd H0 d (.frz od (.dK (dP (ks.map (·.nm)) (ys.map (·.a))))) = Hf0 at hp0 es0 el0 fin0 ⊢
      refine ⟨_, rfl, a, C, dx, _, _, rfl, es0, sc.cls, sc.nK, rfl, d, od, _, rfl, el0, fun D hD => ?_⟩
      refine walk_run (n := ks.length) (fun i H2 => Same Hf0 H2 ∧ H2 D = some (.lst (refsP (pick (fun k => k.one) (ys.take i) (ks.take i))))) ⟨same_new hD, upd_same⟩ (fun i H2 hi h => ⟨h.1 _ _ el0, by rw [dl]; exact hi⟩) (fun H2 h => ⟨h.1 _ _ el0, by rw [dl]; exact Nat.le_refl _⟩) ?_ ?_
      · rintro i y H2 H3 hi ⟨s1, e1⟩ ⟨rfl, kk, hkv⟩
        obtain ⟨x, kd, hx, hk, rfl, rfl⟩ := dP_part yl hkv
        obtain ⟨x', ex, px⟩ := hp0.get hk
        rw [hx] at ex
        cases ex
        refine ⟨rfl, _, rfl, _, _, _, _, (fun k => k.one) kd, rfl, .own n.CI, part_ty (px.keep s1) E, (E.c kd.one).kI, _, rfl, ite2 (fun ho => ?_) (fun ho => ?_)⟩
        · refine ⟨_, rfl, _, e1, small1000 ?_, fun b o e => ?_, ?_⟩
          · unfold refsP
            rw [List.length_map]
            refine Nat.le_trans (pick_len _ _ _) ?_
            rw [List.length_take]
            omega
          · rw [upd_ne (ne_of_none e hD)]
            exact s1 b o e
          · rw [upd_same, pick_more hx hk, if_pos ho]
            unfold refsP
            rw [List.map_append]
            rfl
        · refine ⟨s1, ?_⟩
          rw [e1, pick_more hx hk, if_neg ho, List.append_nil]
      · rintro H2 ⟨s1, e1⟩
        have l3 := hys.len
        rw [show ks.length = ys.length by omega, List.take_length, ← show ks.length = ys.length by omega, List.take_length] at e1
        have nDd : D ≠ d := fun q => by rw [q, el0] at hD; cases hD
        have s2 := fin0 s1
        refine ⟨s1 _ _ el0, ?_⟩
        have e2 : upd H2 d (.dK (dP (ks.map (·.nm)) (ys.map (·.a)))) D = some (.lst (refsP (pick (fun k => k.one) ys ks))) := by rw [upd_ne nDd]; exact e1
        generalize upd H2 d (.dK (dP (ks.map (·.nm)) (ys.map (·.a)))) = H3 at s2 e2 ⊢
        refine ⟨D, pick (fun k => k.one) ys ks, ks.filter (fun k => k.one), rfl, .inl (.inl e2), (pick_each (ps0.keep s2)), nds, Nat.le_trans (List.length_filter_le ..) k60, fun q1 ts1 H4 s4 hq1 eq1 tt1 => ?_⟩
        have s04 := s2.trans s4
        have a1 : H4 a = some (.ins C dx [("_kinds", .ref d)]) := s04 _ _ ea0
        refine ⟨_, rfl, a, C, dx, _, rfl, a1, sc.cls, sc.nS, (by show 1 < 1000; decide), ?_⟩
        generalize hH5 : upd H4 a (.ins C dx (putF "_singles" (.ref q1) [("_kinds", .ref d)])) = H5
        have ea5 : H5 a = some (.ins C dx [("_kinds", .ref d), ("_singles", .ref q1)]) := by rw [← hH5, upd_same]; rfl
        have g45 : Gro a H4 H5 := fun b o q n => by rw [← hH5, upd_ne n]; exact q
        have g05 : Gro a H0 H5 := (Gro.of_same s04).trans g45
        have gH5 := g.trans g05
        have nq1 : H q1 = none := (by
          have z1 : H0 q1 = none := s2.free hq1
          refine g.free z1 fun w => ?_
          rw [w, ea0] at z1
          cases z1)
        have ed5 := g05 _ _ ed0 nad.symm
        have ps5 := ps0.ins ea0 rfl g05
        have tk5 : ∀ b xs, H4 b = some (.tup xs) → H5 b = some (.tup xs) := fun b xs e => g45 _ _ e (ne_of e a1 (fun z => nomatch z))
        have eq5 : H5 q1 = some (.dK (dP (singlesN ks) ts1)) := g45 _ _ eq1 (ne_of eq1 a1 (fun z => nomatch z))
        have tt5 := tt1.keepT tk5
        clear hH5 tk5 g45 a1 s04 s4 eq1 tt1 hq1
        -- the many kinds
        refine ⟨d, _, ed5, True.intro, fun od => ?_⟩
        have hp5 : PartsAt (upd H5 d (.frz od (.dK (dP (ks.map (·.nm)) (ys.map (·.a)))))) n ys ks := PartsAt.off .own ⟨_, ed5⟩ ps5 nod
        have es5 : upd H5 d (.frz od (.dK (dP (ks.map (·.nm)) (ys.map (·.a))))) a = some (.ins C dx [("_kinds", .ref d), ("_singles", .ref q1)]) := by rw [upd_ne nad]; exact ea5
        have el5 : upd H5 d (.frz od (.dK (dP (ks.map (·.nm)) (ys.map (·.a))))) d = _ := upd_same
        have fin5 : ∀ {H2}, Same (upd H5 d (.frz od (.dK (dP (ks.map (·.nm)) (ys.map (·.a)))))) H2 → Same H5 (upd H2 d _) := fun sm => unlock_same ed5 sm
        generalize upd H5 d (.frz od (.dK (dP (ks.map (·.nm)) (ys.map (·.a))))) = Hf5 at hp5 es5 el5 fin5 ⊢
        refine ⟨_, rfl, a, C, dx, _, _, rfl, es5, sc.cls, sc.nK, rfl, d, od, _, rfl, el5, fun D hD => ?_⟩
        refine walk_run (n := ks.length) (fun i H2 => Same Hf5 H2 ∧ H2 D = some (.lst (refsP (pick (fun k => !k.one) (ys.take i) (ks.take i))))) ⟨same_new hD, upd_same⟩ (fun i H2 hi h => ⟨h.1 _ _ el5, by rw [dl]; exact hi⟩) (fun H2 h => ⟨h.1 _ _ el5, by rw [dl]; exact Nat.le_refl _⟩) ?_ ?_
        · rintro i y H2 H3 hi ⟨s1, e1⟩ ⟨rfl, kk, hkv⟩
          obtain ⟨x, kd, hx, hk, rfl, rfl⟩ := dP_part yl hkv
          obtain ⟨x', ex, px⟩ := hp5.get hk
          rw [hx] at ex
          cases ex
          refine ⟨rfl, _, rfl, _, _, _, _, (fun k => !k.one) kd, rfl, .own n.CM, part_ty (px.keep s1) E, (E.c kd.one).kM, _, rfl, ite2 (fun ho => ?_) (fun ho => ?_)⟩
          · refine ⟨_, rfl, _, e1, small1000 ?_, fun b o e => ?_, ?_⟩
            · unfold refsP
              rw [List.length_map]
              refine Nat.le_trans (pick_len _ _ _) ?_
              rw [List.length_take]
              omega
            · rw [upd_ne (ne_of_none e hD)]
              exact s1 b o e
            · rw [upd_same, pick_more hx hk, if_pos ho]
              unfold refsP
              rw [List.map_append]
              rfl
          · refine ⟨s1, ?_⟩
            rw [e1, pick_more hx hk, if_neg ho, List.append_nil]
        · rintro H2 ⟨s1, e1⟩
          have l3 := hys.len
          rw [show ks.length = ys.length by omega, List.take_length, ← show ks.length = ys.length by omega, List.take_length] at e1
          have nDd : D ≠ d := fun q => by rw [q, el5] at hD; cases hD
          have s2 := fin5 s1
          refine ⟨s1 _ _ el5, ?_⟩
          have e2 : upd H2 d (.dK (dP (ks.map (·.nm)) (ys.map (·.a)))) D = some (.lst (refsP (pick (fun k => !k.one) ys ks))) := by rw [upd_ne nDd]; exact e1
          generalize upd H2 d (.dK (dP (ks.map (·.nm)) (ys.map (·.a)))) = H3 at s2 e2 ⊢
          refine ⟨D, pick (fun k => !k.one) ys ks, ks.filter (fun k => !k.one), rfl, .inl (.inl e2), (pick_each (ps5.keep s2)), ndm, Nat.le_trans (List.length_filter_le ..) k60, fun q2 ts2 H7 s7 hq2 eq2 tt2 => ?_⟩
          have s57 := s2.trans s7
          have a1 : H7 a = some (.ins C dx [("_kinds", .ref d), ("_singles", .ref q1)]) := s57 _ _ ea5
          refine ⟨_, rfl, a, C, dx, _, rfl, a1, sc.cls, sc.nM, (by show 2 < 1000; decide), ?_⟩
          generalize hH8 : upd H7 a (.ins C dx (putF "_manys" (.ref q2) [("_kinds", .ref d), ("_singles", .ref q1)])) = H8
          have ea8 : H8 a = some (.ins C dx [("_kinds", .ref d), ("_singles", .ref q1), ("_manys", .ref q2)]) := by rw [← hH8, upd_same]; rfl
          have g78 : Gro a H7 H8 := fun b o q n => by rw [← hH8, upd_ne n]; exact q
          have g58 : Gro a H5 H8 := (Gro.of_same s57).trans g78
          have gH8 := gH5.trans g58
          have nq2 : H q2 = none := (by
            have z1 : H5 q2 = none := s2.free hq2
            refine gH5.free z1 fun w => ?_
            rw [w, ea5] at z1
            cases z1)
          have ed8 := g58 _ _ ed5 nad.symm
          have ps8 := ps5.ins ea5 rfl g58
          have tk8 : ∀ b xs, H7 b = some (.tup xs) → H8 b = some (.tup xs) := fun b xs e => g78 _ _ e (ne_of e a1 (fun z => nomatch z))
          have tk58 : ∀ b xs, H5 b = some (.tup xs) → H8 b = some (.tup xs) := fun b xs e => g58 _ _ e (ne_of e ea5 (fun z => nomatch z))
          have eq8 : H8 q2 = some (.dK (dP (manysN ks) ts2)) := g78 _ _ eq2 (ne_of eq2 a1 (fun z => nomatch z))
          have eq18 := g58 _ _ eq5 (ne_of eq5 ea5 (fun z => nomatch z))
          have tt8 := tt2.keepT tk8
          have tt18 := tt5.keepT tk58
          clear hH8 tk8 tk58 g78 a1 s57 s7 eq2 tt2 hq2
          -- all standings
          refine ⟨d, _, ed8, True.intro, fun od => ?_⟩
          have hp8 : PartsAt (upd H8 d (.frz od (.dK (dP (ks.map (·.nm)) (ys.map (·.a)))))) n ys ks := PartsAt.off .own ⟨_, ed8⟩ ps8 nod
          have es8 : upd H8 d (.frz od (.dK (dP (ks.map (·.nm)) (ys.map (·.a))))) a = some (.ins C dx [("_kinds", .ref d), ("_singles", .ref q1), ("_manys", .ref q2)]) := by rw [upd_ne nad]; exact ea8
          have el8 : upd H8 d (.frz od (.dK (dP (ks.map (·.nm)) (ys.map (·.a))))) d = _ := upd_same
          have fin8 : ∀ {H2}, Same (upd H8 d (.frz od (.dK (dP (ks.map (·.nm)) (ys.map (·.a)))))) H2 → Same H8 (upd H2 d _) := fun sm => unlock_same ed8 sm
          generalize upd H8 d (.frz od (.dK (dP (ks.map (·.nm)) (ys.map (·.a))))) = Hf8 at hp8 es8 el8 fin8 ⊢
          refine ⟨_, rfl, a, C, dx, _, _, rfl, es8, sc.cls, sc.nK, rfl, d, od, _, rfl, el8, fun D hD => ?_⟩
          have lenA : ∀ i, (allS (ks.take i)).length ≤ 600 := fun i => by
            refine Nat.le_trans (allS_len fun k hk => (fit k (List.mem_of_mem_take hk)).s10) ?_
            rw [List.length_take]
            omega
          refine walk_run (n := ks.length) (fun i H' => Same Hf8 H' ∧ ∃ zs, H' D = some (.lst zs) ∧ PairsAt H' zs (allS (ks.take i))) ⟨same_new hD, [], upd_same, True.intro⟩ (fun i H' hi h => ⟨h.1 _ _ el8, by rw [dl]; exact hi⟩) (fun H' h => ⟨h.1 _ _ el8, by rw [dl]; exact Nat.le_refl _⟩) ?_ ?_
          · rintro i y H' H2 hi ⟨s1, zs, e1, p1⟩ ⟨T, kk, v, hkv, rfl, hT', rfl⟩
            obtain ⟨x, kd, hx, hk, rfl, rfl⟩ := dP_part yl hkv
            obtain ⟨x', ex, px⟩ := hp8.get hk
            rw [hx] at ex
            cases ex
            have ft := fit kd (List.mem_of_getElem? hk)
            have s2 := same_new (o := .tup [kV (Sum.inr kd.nm), .ref x.a]) hT'
            have px2 := (px.keep s1).keep s2
            refine ⟨T, _, rfl, SqT.of upd_same, rfl, _, _, rfl, _, _, rfl, rfl, rfl, _, rfl, px2.stands E fun t ht => ?_⟩
            have s3 := same_new (o := .tup (kd.ss.map V.str)) ht
            have et : upd (upd H' T (.tup [kV (Sum.inr kd.nm), .ref x.a])) t (.tup (kd.ss.map V.str)) t = _ := upd_same
            have e1' := s3 _ _ (s2 _ _ e1)
            have p1' := (p1.same s2).same s3
            have s13 := s1.trans (s2.trans s3)
            generalize upd (upd H' T (.tup [kV (Sum.inr kd.nm), .ref x.a])) t (.tup (kd.ss.map V.str)) = H3 at s3 et e1' p1' s13 ⊢
            refine ⟨t, rfl, ⟨_, SqT.of et⟩, ?_⟩
            refine walk_run (n := kd.ss.length) (fun j H4 => Same Hf8 H4 ∧ H4 t = some (.tup (kd.ss.map V.str)) ∧ ∃ zs, H4 D = some (.lst zs) ∧ PairsAt H4 zs (allS (ks.take i) ++ (kSpots kd).take j))
              ⟨s13, et, zs, e1', by rw [List.take_zero, List.append_nil]; exact p1'⟩ (fun j H4 hj h => ⟨_, V.str kd.ss[j], SqT.of h.2.1, by rw [List.getElem?_map, List.getElem?_eq_getElem hj]; rfl⟩) (fun H4 h => ⟨_, SqT.of h.2.1, by rw [List.length_map]; exact Nat.le_refl _⟩) ?_ ?_
            · rintro j y H4 H5 hj ⟨s4, et4, zs4, e4, p4⟩ ⟨rfl, gy⟩
              have hy := gy _ (SqT.of et4)
              obtain ⟨z, hz, rfl⟩ := get_strs2 hy
              refine ⟨rfl, _, rfl, _, rfl, (by show 2 ≤ sizeLine; decide), fun u hu => ?_⟩
              have s5 := same_new (o := .tup [kV (Sum.inr kd.nm), .str z]) hu
              have eu : upd H5 u (.tup [kV (Sum.inr kd.nm), .str z]) u = some (.tup [.str kd.nm, .str z]) := upd_same
              have e5 := s5 _ _ e4
              have et5 := s5 _ _ et4
              have p5 := p4.same s5
              have s45 := s4.trans s5
              generalize upd H5 u (.tup [kV (Sum.inr kd.nm), .str z]) = H6 at s5 eu e5 et5 p5 s45 ⊢
              have l4 := p4.len
              have kp : (kSpots kd)[j]? = some (kd.nm, z) := by unfold kSpots; rw [List.getElem?_map, hz]; rfl
              have tk : ∀ b xs, H6 b = some (.tup xs) → upd H6 D (.lst (zs4 ++ [.ref u])) b = some (.tup xs) := fun b xs e => by rw [upd_ne (ne_of e e5 (fun z => nomatch z))]; exact e
              refine ⟨_, e5, small1000 (by
                have a1 := lenA i
                have a2 := kSpots_len kd
                have a3 := ft.s10
                rw [l4, List.length_append, List.length_take]
                omega), fun b o e => by rw [upd_ne (ne_of_none e hD)]; exact s45 b o e, tk _ _ et5, _, upd_same, ?_⟩
              rw [takeP kp, ← List.append_assoc]
              exact PairsAt.snoc (tk _ _ eu) (p5.keep tk)
            · rintro H4 ⟨s4, et4, zs4, e4, p4⟩
              refine ⟨s4, zs4, e4, ?_⟩
              rw [allS_more hk]
              have etk : (kSpots kd).take kd.ss.length = kSpots kd := List.take_of_length_le (by rw [kSpots_len]; exact Nat.le_refl _)
              rw [etk] at p4
              exact p4
          · rintro H9 ⟨s1, zs, e1, p1⟩
            rw [List.take_length] at p1
            have nDd : D ≠ d := fun q => by rw [q, el8] at hD; cases hD
            have s2 := fin8 s1
            refine ⟨s1 _ _ el8, D, _, rfl, .inl ⟨SqL.of (by rw [upd_ne nDd]; exact e1), fun q3 hq3 => ?_⟩⟩
            have pz : PairsAt (upd H9 d (.dK (dP (ks.map (·.nm)) (ys.map (·.a))))) zs (allS ks) := p1.keepT fun b xs e => by rw [upd_ne (ne_of e (s1 _ _ el8) (fun z => nomatch z))]; exact e
            generalize upd H9 d (.dK (dP (ks.map (·.nm)) (ys.map (·.a)))) = H10 at s2 pz hq3 ⊢
            have s3 := same_new (o := .tup zs) hq3
            have eq3 : upd H10 q3 (.tup zs) q3 = some (.tup zs) := upd_same
            have pz3 := pz.same s3
            have s8 := s2.trans s3
            generalize upd H10 q3 (.tup zs) = H11 at s3 eq3 pz3 s8 ⊢
            have a1 := s8 _ _ ea8
            refine ⟨_, rfl, a, C, dx, _, rfl, a1, sc.cls, sc.nO, (by show 3 < 1000; decide), ?_⟩
            generalize hH12 : upd H11 a (.ins C dx (putF "_order" (.ref q3) [("_kinds", .ref d), ("_singles", .ref q1), ("_manys", .ref q2)])) = H12
            have ea12 : H12 a = some (.ins C dx [("_kinds", .ref d), ("_singles", .ref q1), ("_manys", .ref q2), ("_order", .ref q3)]) := by rw [← hH12, upd_same]; rfl
            have g12 : Gro a H11 H12 := fun b o q n => by rw [← hH12, upd_ne n]; exact q
            have g82 : Gro a H8 H12 := (Gro.of_same s8).trans g12
            have tk12 : ∀ b xs, H11 b = some (.tup xs) → H12 b = some (.tup xs) := fun b xs e => g12 _ _ e (ne_of e a1 (fun z => nomatch z))
            have tk82 : ∀ b xs, H8 b = some (.tup xs) → H12 b = some (.tup xs) := fun b xs e => tk12 _ _ (s8 _ _ e)
            have dk82 : ∀ b kvs, H8 b = some (.dK kvs) → H12 b = some (.dK kvs) := fun b kvs e => g82 _ _ e (ne_of e ea8 (fun z => nomatch z))
            refine kN nd ⟨d, q1, q2, q3⟩ ys H12 (fun b hb => ?_) (gH8.trans g82) ⟨⟨dx, ea12⟩, dk82 _ _ ed8, ps8.ins ea8 rfl g82, nd, nod, ⟨ts1, dk82 _ _ eq18, tt18.keepT tk82⟩, ⟨ts2, dk82 _ _ eq8, tt8.keepT tk82⟩, ⟨zs, tk12 _ _ eq3, pz3.keepT tk12⟩⟩ fr
            unfold SD.fp at hb
            simp only [List.mem_cons, List.mem_nil_iff, or_false] at hb
            rcases hb with rfl | rfl | rfl
            · exact hd
            · exact nq1
            · exact nq2
end
end Yd
namespace Yd
open PySem L2
/-! ### the class Site: what it tells -/
section
variable {H H' : Hp} {n : Kn} {CS s : Addr} {d : SD} {xs : List PX} {ks : List KD}
theorem SiteAt.len (h : SiteAt H n CS s d xs ks) : (ks.map (·.nm)).length = (xs.map (·.a)).length := by rw [List.length_map, List.length_map, h.parts.len]
theorem SiteAt.nds (h : SiteAt H n CS s d xs ks) (p : KD → Bool) : ((ks.filter p).map (·.nm)).Nodup := h.nd.sublist (List.Sublist.map _ (List.filter_sublist ..))
end
def spSingles (n : Kn) (CS : Addr) : Sp := fun vs H Q _ => ∃ (s : Addr) (d : SD) (xs : List PX) (ks : List KD), vs = [.ref s] ∧ SiteAt H n CS s d xs ks ∧ ks.length ≤ 60 ∧ ∀ q H', Same H H' → H q = none → H' q = some (.tup ((singlesN ks).map V.str)) → Q (.ref q) H'
def spFirst (n : Kn) (CS : Addr) : Sp := fun vs H Q _ => ∃ (s : Addr) (d : SD) (xs : List PX) (ks : List KD), vs = [.ref s] ∧ SiteAt H n CS s d xs ks ∧ ks.length ≤ 60 ∧ (∀ k ∈ ks, KdFit k) ∧ ∀ q H', Same H H' → H q = none → H' q = some (.tup ((firstP ks).map V.str)) → Q (.ref q) H'
def spAllSt (n : Kn) (CS : Addr) : Sp := fun vs H Q _ => ∃ (s : Addr) (d : SD) (xs : List PX) (ks : List KD), vs = [.ref s] ∧ SiteAt H n CS s d xs ks ∧ ks.length ≤ 60 ∧ (∀ k ∈ ks, KdFit k) ∧ ∀ q ys, H q = some (.tup ys) → PairsAt H ys (allS ks) → Q (.ref q) H
section
variable {P : Program} {w : World} {K : PySem.W.Frag} {mg : Str → Option Value} {base : Heap}
theorem scSSing : FnScope ["self"] ["self"] (defScope sSiteSingles) := ⟨rfl, rfl, rfl, by decide +kernel, rfl, by decide +kernel, by decide +kernel⟩
theorem ok_singles {f CS : Addr} {fd : FuncData} {n : Kn} (F : Fun K "singles" "Site.singles" sSiteSingles f fd) (sc : SCls K CS) (hT : mg "tuple" = none) : FnOk P w K mg base CX0 2 f fd ["self"] (spSingles n CS) := by
  refine F.ok scSSing (fun vs H Q E h => ?_) (fun cdv A outer s H vs Q E' hr h => ?_)
  · obtain ⟨s, d, xs, ks, rfl, _⟩ := h
    rfl
  · obtain ⟨s, d, xs, ks, rfl, st, k60, k⟩ := h
    refine ⟨_, pss_one (ps_ret (pe_callTy (call_tupleD rfl) (by rfl) hT (by decide +kernel) (pa_cons (pe_fld (pv 0) rfl) pa_nil))), ?_⟩
    obtain ⟨dx, es⟩ := st.ins
    obtain ⟨ts, e1, tt⟩ := st.one
    refine ⟨_, rfl, s, CS, dx, _, _, rfl, es, sc.cls, sc.nS, rfl, d.e1, _, rfl, .of e1, fun q hq => ?_⟩
    rw [dP_keys (show (singlesN ks).length = ts.length by unfold singlesN; rw [List.length_map, tt.1])]
    exact k q _ (same_new hq) hq upd_same
end
end Yd
namespace Yd
open PySem L2
/-! ### the class Site: first_places, all_standings -/
section
variable {P : Program} {w : World} {K : PySem.W.Frag} {mg : Str → Option Value} {base : Heap}
theorem scSAll : FnScope ["self"] ["self"] (defScope sSiteAllStandings) := ⟨rfl, rfl, rfl, by decide +kernel, rfl, by decide +kernel, by decide +kernel⟩
theorem ok_allSt {f CS : Addr} {fd : FuncData} {n : Kn} (F : Fun K "all_standings" "Site.all_standings" sSiteAllStandings f fd) (sc : SCls K CS) : FnOk P w K mg base CX0 3 f fd ["self"] (spAllSt n CS) := by
  refine F.ok scSAll (fun vs H Q E h => ?_) (fun cdv A outer s H vs Q E' hr h => ?_)
  · obtain ⟨s, d, xs, ks, rfl, _⟩ := h
    rfl
  · obtain ⟨s, d, xs, ks, rfl, st, k60, fit, k⟩ := h
    refine ⟨_, pss_one (ps_ret (pe_fld (pv 0) rfl)), ?_⟩
    obtain ⟨dx, es⟩ := st.ins
    obtain ⟨ys, e1, p1⟩ := st.order
    exact ⟨_, rfl, s, CS, dx, _, _, rfl, es, sc.cls, sc.nO, rfl, k _ ys e1 p1⟩
end
end Yd
namespace Yd
open PySem L2
/-! ### the class Site: spots; the standings of one kind -/
theorem allS_get {ks : List KD} {p : Pr} (h : p ∈ allS ks) : ∃ k ∈ ks, p.1 = k.nm ∧ p.2 ∈ k.ss := by
  unfold allS kSpots at h
  obtain ⟨k, hk, hp⟩ := List.mem_flatMap.mp h
  obtain ⟨s, hs, rfl⟩ := List.mem_map.mp hp
  exact ⟨k, hk, rfl, hs⟩
theorem name_at {ks : List KD} (nd : (ks.map (·.nm)).Nodup) {a b : KD} (ha : a ∈ ks) (hb : b ∈ ks) (e : a.nm = b.nm) : a = b := by
  obtain ⟨i, hi⟩ := List.mem_iff_getElem?.mp ha
  obtain ⟨j, hj⟩ := List.mem_iff_getElem?.mp hb
  have h1 : (ks.map (·.nm))[i]? = some a.nm := by rw [List.getElem?_map, hi]; rfl
  have h2 : (ks.map (·.nm))[j]? = some a.nm := by rw [List.getElem?_map, hj, e]; rfl
  have q := nd_ix nd h1 h2
  subst q
  rw [hi] at hj
  exact Option.some.inj hj
theorem kSpots_nd {k : KD} (h : k.ss.Nodup) : (kSpots k).Nodup := by
  unfold kSpots
  rw [List.nodup_iff_pairwise_ne] at h ⊢
  rw [List.pairwise_map]
  exact h.imp fun {a b} n e => n (Prod.mk.inj e).2
theorem allS_nd {ks : List KD} (nd : (ks.map (·.nm)).Nodup) (h : ∀ k ∈ ks, k.ss.Nodup) : (allS ks).Nodup := by
  unfold allS
  induction ks with
  | nil => exact List.nodup_nil
  | cons k ks ih =>
    rw [List.map_cons, List.nodup_cons] at nd
    rw [List.flatMap_cons, List.nodup_append]
    refine ⟨kSpots_nd (h k (List.mem_cons_self ..)), ih nd.2 fun q hq => h q (List.mem_cons_of_mem _ hq), fun a ha b hb e => ?_⟩
    subst e
    obtain ⟨s, _, rfl⟩ := List.mem_map.mp ha
    obtain ⟨q, hq, e1, _⟩ := allS_get hb
    exact nd.1 (List.mem_map.mpr ⟨q, hq, e1.symm⟩)
/-- is this the name of a many kind -/
def isMany (ks : List KD) (z : Str) : Bool := decide (z ∈ (ks.filter fun k => !k.one).map (·.nm))
theorem isMany_is {ks : List KD} (nd : (ks.map (·.nm)).Nodup) {k : KD} (hk : k ∈ ks) : isMany ks k.nm = !k.one := by
  unfold isMany
  cases e : k.one with
  | false => exact decide_eq_true (List.mem_map.mpr ⟨k, List.mem_filter.mpr ⟨hk, by rw [e]; rfl⟩, rfl⟩)
  | true =>
    refine decide_eq_false fun m => ?_
    obtain ⟨q, hq, e1⟩ := List.mem_map.mp m
    obtain ⟨hq, e2⟩ := List.mem_filter.mp hq
    rw [name_at nd hq hk e1, e] at e2
    cases e2
theorem spots_filter {ks : List KD} (nd : (ks.map (·.nm)).Nodup) : (allS ks).filter (fun p => isMany ks p.1) = spotsL ks := by
  unfold allS spotsL
  suffices q : ∀ l : List KD, (∀ k ∈ l, k ∈ ks) → (l.flatMap kSpots).filter (fun p => isMany ks p.1) = (l.filter fun k => !k.one).flatMap kSpots from q ks fun _ h => h
  intro l
  induction l with
  | nil => intro _; rfl
  | cons k l ih =>
    intro h
    rw [List.flatMap_cons, List.filter_append, ih fun q hq => h q (List.mem_cons_of_mem _ hq), List.filter_cons]
    have hk := isMany_is nd (h k (List.mem_cons_self ..))
    cases e : k.one with
    | true =>
      have : (kSpots k).filter (fun p => isMany ks p.1) = [] := List.filter_eq_nil_iff.mpr fun p hp => by
        obtain ⟨s, _, rfl⟩ := List.mem_map.mp hp
        rw [show ((k.nm, s) : Pr).1 = k.nm from rfl, hk, e]
        simp
      rw [this]
      simp
    | false =>
      have : (kSpots k).filter (fun p => isMany ks p.1) = kSpots k := List.filter_eq_self.mpr fun p hp => by
        obtain ⟨s, _, rfl⟩ := List.mem_map.mp hp
        rw [show ((k.nm, s) : Pr).1 = k.nm from rfl, hk, e]
        rfl
      rw [this]
      simp
theorem PartAt.ssnd {H : Hp} {n : Kn} {x : PX} {k : KD} (h : PartAt H n x k) : k.ss.Nodup := h.pa.S.nd
theorem PartsAt.ssnd {H : Hp} {n : Kn} {xs : List PX} {ks : List KD} (h : PartsAt H n xs ks) : ∀ k ∈ ks, k.ss.Nodup := fun k hk => by
  obtain ⟨i, hi⟩ := List.mem_iff_getElem?.mp hk
  obtain ⟨x, _, p⟩ := h.get hi
  exact p.ssnd
def spSpots (n : Kn) (CS CH : Addr) : Sp := fun vs H Q _ => ∃ (s : Addr) (d : SD) (xs : List PX) (ks : List KD), vs = [.ref s] ∧ SiteAt H n CS s d xs ks ∧ ks.length ≤ 60 ∧ (∀ k ∈ ks, KdFit k) ∧ ∀ h dh H', Same H H' → H h = none → H dh = none → HoldAt H' CH h dh (spotsL ks) → Q (.ref h) H'
/-- the standings of the kind of this name and sort -/
def spOneSt (K : PySem.W.Frag) (n : Kn) (CS : Addr) (one : Bool) : Sp := fun vs H Q E => ∃ (s : Addr) (d : SD) (xs : List PX) (ks : List KD) (z : Str), vs = [.ref s, .str z] ∧ SiteAt H n CS s d xs ks ∧ z.length ≤ 100 ∧ ((∀ k ∈ ks, k.nm = z → k.one ≠ one) → Raised n.CU [.str z] fsUnknown H E) ∧
  ∀ k ∈ ks, k.nm = z → k.one = one → ∀ t, H t = some (.tup (k.ss.map V.str)) → Q (.ref t) H
section
variable {P : Program} {w : World} {K : PySem.W.Frag} {mg : Str → Option Value} {base : Heap}
def nSSpots : List Str := ["self", "kind", "standings", "standing"]
theorem scSSpots : FnScope nSSpots ["self"] (defScope sSiteSpots) := ⟨rfl, rfl, rfl, by decide +kernel, rfl, by decide +kernel, by decide +kernel⟩
theorem SiteAt.get {H : Hp} {n : Kn} {CS s : Addr} {d : SD} {xs : List PX} {ks : List KD} (h : SiteAt H n CS s d xs ks) {k : KD} (hk : k ∈ ks) : ∃ x, PartAt H n x k ∧ DGet H d.k (.str k.nm) (some (.ref x.a)) := by
  obtain ⟨i, hi⟩ := List.mem_iff_getElem?.mp hk
  obtain ⟨x, hx, px⟩ := h.parts.get hi
  refine ⟨x, px, .inl ⟨_, Sum.inr k.nm, .of h.dict, rfl, ?_⟩⟩
  exact (dP_some h.nd (by rw [List.getElem?_map, hi]; rfl) (by rw [List.getElem?_map, hx]; rfl)).symm
theorem ok_spots {f CS CH : Addr} {fd : FuncData} {n : Kn} (F : Fun K "spots" "Site.spots" sSiteSpots f fd) (sc : SCls K CS) (c : HoldC P w K mg base CH) : FnOk P w K mg base CX0 4 f fd ["self"] (spSpots n CS CH) := by
  refine F.ok scSSpots (fun vs H Q E h => ?_) (fun cdv A outer s H vs Q E' hr h => ?_)
  · obtain ⟨s, d, xs, ks, rfl, _⟩ := h
    rfl
  · obtain ⟨s, d, xs, ks, rfl, st, k60, fit, k⟩ := h
    have r2 : Room 2 _ := hr.mono (by decide)
    obtain ⟨fn, fdn, e0, ee, M, GN, bN, _⟩ := c.ini
    refine ⟨_, pss_one (ps_ret (pe_make (E := fun _ _ _ => False) M GN r2 (by rfl) c.g bN .nil pass0 (pa_cons (pe_lock (pe_lc2 (own := [("kind", 1), ("standings", 2), ("standing", 3)]) (vs1 := [3]) (g := gTup K 2 (gCons (gName 1) (gCons (gName 2) gNil))) (tt := tYes) (wi1 := iTup K (tVar 2)) (g1 := gName 3) (tt1 := tYes) (te := tTup (tCons (tVar 1) (tCons (tVar 3) tNil))) rfl scSSpots.nd
      (pi_items (pe_fld (pv 0) rfl)) (blkOk_by (N := nSSpots) (sc := defScope sSiteSpots) (by decide +kernel)) (by decide)
      (fun _ _ _ _ _ => pg_tup (by rfl) (pgs_cons (pg_name (i := 1) scSSpots.nd rfl (Or.inl rfl)) (pgs_cons (pg_name (i := 2) scSSpots.nd rfl (Or.inl rfl)) pgs_nil)))
      (fun _ _ _ _ _ => pts_nil) (fun _ _ _ _ _ => pi_tup (pv 2)) (fun _ _ _ _ _ => pg_name (i := 3) scSSpots.nd rfl (Or.inl rfl)) (fun _ _ _ _ _ => pts_nil)
      (fun _ _ _ _ _ => pe_tup (pa_cons (pv 1) (pa_cons (pv 3) pa_nil))))) pa_nil))), ?_⟩
    obtain ⟨dx, es⟩ := st.ins
    obtain ⟨ts, e1, tt⟩ := st.many
    have tl : (manysN ks).length = ts.length := by unfold manysN; rw [List.length_map, tt.1]
    have nse : s ≠ d.e2 := ne_of es e1 (fun z => nomatch z)
    have dl : (dP (manysN ks) ts).length = (ks.filter fun k => !k.one).length := by rw [dP_len tl, tl, tt.1]
    have nda := allS_nd st.nd st.parts.ssnd
    have fitM : ∀ k ∈ ks.filter (fun k => !k.one), k.ss.length ≤ 10 := fun k hk => (fit k (List.mem_filter.mp hk).1).s10
    have l60 : (ks.filter fun k => !k.one).length ≤ 60 := Nat.le_trans (List.length_filter_le ..) k60
    have lenA : ∀ i, (allS ((ks.filter fun k => !k.one).take i)).length ≤ 600 := fun i => by
      refine Nat.le_trans (allS_len fun k hk => fitM k (List.mem_of_mem_take hk)) ?_
      rw [List.length_take]
      omega
    refine ⟨d.e2, _, e1, True.intro, fun od => ?_⟩
    have es0 : upd H d.e2 (.frz od (.dK (dP (manysN ks) ts))) s = some (.ins CS dx d.fs) := by rw [upd_ne nse]; exact es
    have ed : upd H d.e2 (.frz od (.dK (dP (manysN ks) ts))) d.e2 = _ := upd_same
    have tt0 : TupsAt (upd H d.e2 (.frz od (.dK (dP (manysN ks) ts)))) ts (ks.filter fun k => !k.one) := tt.keepT fun b xs e => by rw [upd_ne (ne_of e e1 (fun z => nomatch z))]; exact e
    have fin : ∀ {H'}, Same (upd H d.e2 (.frz od (.dK (dP (manysN ks) ts)))) H' → Same H (upd H' d.e2 _) := fun sm => unlock_same e1 sm
    generalize upd H d.e2 (.frz od (.dK (dP (manysN ks) ts))) = Hf at es0 ed fin tt0 ⊢
    generalize hms : (ks.filter fun k => !k.one) = ms at tt0 dl fitM l60 lenA
    refine ⟨_, rfl, s, CS, dx, _, _, rfl, es0, sc.cls, sc.nM, rfl, d.e2, od, _, rfl, ed, fun D hD => ?_⟩
    refine walk_run (n := ms.length) (fun i H' => Same Hf H' ∧ ∃ ys, H' D = some (.lst ys) ∧ PairsAt H' ys (allS (ms.take i))) ⟨same_new hD, [], upd_same, True.intro⟩ (fun i H' hi h => ⟨h.1 _ _ ed, by rw [dl]; exact hi⟩) (fun H' h => ⟨h.1 _ _ ed, by rw [dl]; exact Nat.le_refl _⟩) ?_ ?_
    · rintro i y H' H2 hi ⟨s1, ys, e2, p1⟩ ⟨T, kk, v, hkv, rfl, hT', rfl⟩
      obtain ⟨z0, t, hz0, ht, rfl, rfl⟩ := dP_key tl hkv
      obtain ⟨kd, hk⟩ : ∃ kd, ms[i]? = some kd := ⟨_, List.getElem?_eq_getElem hi⟩
      have ez0 : z0 = kd.nm := by
        unfold manysN at hz0
        rw [hms, List.getElem?_map, hk] at hz0
        exact (Option.some.inj hz0).symm
      subst ez0
      have s2 := same_new (o := .tup [kV (Sum.inr kd.nm), .ref t]) hT'
      have et := s2 _ _ (s1 _ _ (tt0.2 i t kd ht hk))
      have eT : upd H' T (.tup [kV (Sum.inr kd.nm), .ref t]) T = some (.tup [kV (Sum.inr kd.nm), .ref t]) := upd_same
      have e1' := s2 _ _ e2
      have p1' := p1.same s2
      have s13 := s1.trans s2
      generalize upd H' T (.tup [kV (Sum.inr kd.nm), .ref t]) = H3 at s2 et eT e1' p1' s13 ⊢
      refine ⟨T, _, rfl, SqT.of eT, rfl, _, _, rfl, _, _, rfl, rfl, rfl, _, rfl, t, rfl, ⟨_, SqT.of et⟩, ?_⟩
      refine walk_run (n := kd.ss.length) (fun j H4 => Same Hf H4 ∧ H4 t = some (.tup (kd.ss.map V.str)) ∧ ∃ ys, H4 D = some (.lst ys) ∧ PairsAt H4 ys (allS (ms.take i) ++ (kSpots kd).take j))
        ⟨s13, et, ys, e1', by rw [List.take_zero, List.append_nil]; exact p1'⟩ (fun j H4 hj h => ⟨_, V.str kd.ss[j], SqT.of h.2.1, by rw [List.getElem?_map, List.getElem?_eq_getElem hj]; rfl⟩) (fun H4 h => ⟨_, SqT.of h.2.1, by rw [List.length_map]; exact Nat.le_refl _⟩) ?_ ?_
      · rintro j y H4 H5 hj ⟨s4, et4, ys4, e4, p4⟩ ⟨rfl, gy⟩
        have hy := gy _ (SqT.of et4)
        obtain ⟨z, hz, rfl⟩ := get_strs2 hy
        refine ⟨rfl, _, rfl, _, rfl, (by show 2 ≤ sizeLine; decide), fun u hu => ?_⟩
        have s5 := same_new (o := .tup [kV (Sum.inr kd.nm), .str z]) hu
        have eu : upd H5 u (.tup [kV (Sum.inr kd.nm), .str z]) u = some (.tup [.str kd.nm, .str z]) := upd_same
        have e5 := s5 _ _ e4
        have et5 := s5 _ _ et4
        have p5 := p4.same s5
        have s45 := s4.trans s5
        generalize upd H5 u (.tup [kV (Sum.inr kd.nm), .str z]) = H6 at s5 eu e5 et5 p5 s45 ⊢
        have l4 := p4.len
        have kp : (kSpots kd)[j]? = some (kd.nm, z) := by unfold kSpots; rw [List.getElem?_map, hz]; rfl
        have tk : ∀ b xs, H6 b = some (.tup xs) → upd H6 D (.lst (ys4 ++ [.ref u])) b = some (.tup xs) := fun b xs e => by rw [upd_ne (ne_of e e5 (fun z => nomatch z))]; exact e
        refine ⟨_, e5, small1000 (by
          have a1 := lenA i
          have a2 := kSpots_len kd
          have a3 := fitM kd (List.mem_of_getElem? hk)
          rw [l4, List.length_append, List.length_take]
          omega), fun b o e => by rw [upd_ne (ne_of_none e hD)]; exact s45 b o e, tk _ _ et5, _, upd_same, ?_⟩
        rw [takeP kp, ← List.append_assoc]
        exact PairsAt.snoc (tk _ _ eu) (p5.keep tk)
      · rintro H4 ⟨s4, et4, ys4, e4, p4⟩
        refine ⟨s4, ys4, e4, ?_⟩
        rw [allS_more hk]
        have etk : (kSpots kd).take kd.ss.length = kSpots kd := List.take_of_length_le (by rw [kSpots_len]; exact Nat.le_refl _)
        rw [etk] at p4
        exact p4
    · rintro H' ⟨s1, ys, e2, p1⟩
      rw [List.take_length] at p1
      have e3 := s1 _ _ ed
      have nDd : D ≠ d.e2 := fun q => by rw [q, ed] at hD; cases hD
      have sf := fin s1
      have pz : PairsAt (upd H' d.e2 (.dK (dP (manysN ks) ts))) ys (allS ms) := p1.keepT fun b xs e => by rw [upd_ne (ne_of e e3 (fun z => nomatch z))]; exact e
      have ez : upd H' d.e2 (.dK (dP (manysN ks) ts)) D = some (.lst ys) := by rw [upd_ne nDd]; exact e2
      generalize upd H' d.e2 (.dK (dP (manysN ks) ts)) = H3 at sf pz ez ⊢
      refine ⟨e3, fun x dx3 nx ndx nex => ?_⟩
      have esp : spotsL ks = allS ms := by rw [← hms]; rfl
      have nds : (allS ms).Nodup := by rw [← esp, ← spots_filter st.nd]; exact nda.filter _
      have lsp : (allS ms).length ≤ 1000 := by
        have := lenA ms.length
        rw [List.take_length] at this
        omega
      refine hold_new c.h rfl ⟨ys, pz, .inl (SqL.of ez)⟩ lsp nx ndx nex fun d' H2 s6 hd' h' => ?_
      rw [onceP_id nds] at h'
      exact k x d' H2 (sf.trans s6) (sf.free nx) (sf.free hd') (by rw [esp]; exact h')
theorem scSSingle : FnScope ["self", "name"] ["self", "name"] (defScope sSiteSingleStandings) := ⟨rfl, rfl, rfl, by decide +kernel, rfl, by decide +kernel, by decide +kernel⟩
theorem ok_single {f CS : Addr} {fd : FuncData} {n : Kn} (F : Fun K "single_standings" "Site.single_standings" sSiteSingleStandings f fd) (sc : SCls K CS) (O : ErrOk P w K mg base "Unknown" n.CU 1 okUnknown fsUnknown) :
    FnOk P w K mg base (L2.CX P w) 3 f fd ["self", "name"] (spOneSt K n CS true) := by
  refine F.okX scSSingle (fun vs H Q E h => ?_) (fun cdv A outer s H vs Q E' hr h => ?_)
  · obtain ⟨s, d, xs, ks, z, rfl, _⟩ := h
    rfl
  · obtain ⟨s, d, xs, ks, z, rfl, st, zl, kU, k⟩ := h
    have hu := hu_of hr
    refine ⟨_, pss_cons (ps_if (pt_cmp (pc_dnotin hu (pv 1) (pe_fld (pv 0) rfl))) (pss_one (ps_raise rfl (takes_of rfl rfl rfl rfl) (pmk_err O hr rfl (pa_cons (pv 1) pa_nil)))) pss_nil)
      (pss_one (ps_ret (pe_dget hu (pe_fld (pv 0) rfl) (pv 1) (fun _ _ => rfl)))), ?_⟩
    obtain ⟨dx, es⟩ := st.ins
    obtain ⟨ts, e1, tt⟩ := st.one
    have nd := st.nds (fun k => k.one)
    have tl : ((ks.filter (fun k => k.one)).map (·.nm)).length = ts.length := by rw [List.length_map, tt.1]
    refine ⟨_, rfl, _, rfl, s, CS, dx, _, _, rfl, es, sc.cls, sc.nS, rfl, d.e1, _, rfl, DGet.k (k := Sum.inr z) e1, _, rfl, ?_⟩
    unfold singlesN
    rw [dP_is nd tl]
    by_cases m : z ∈ (ks.filter (fun k => k.one)).map (·.nm)
    · rw [decide_eq_true m]
      obtain ⟨j, hj⟩ := List.mem_iff_getElem?.mp m
      have hj0 := hj
      rw [List.getElem?_map] at hj
      obtain ⟨kd, hk, en⟩ := Option.map_eq_some_iff.mp hj
      obtain ⟨t, ht⟩ : ∃ t, ts[j]? = some t := ⟨_, List.getElem?_eq_getElem (by rw [tt.1]; exact (List.getElem?_eq_some_iff.mp hk).1)⟩
      obtain ⟨m1, m2⟩ := List.mem_filter.mp (List.mem_of_getElem? hk)
      refine no rfl ⟨_, rfl, s, CS, dx, _, _, rfl, es, sc.cls, sc.nS, rfl, _, rfl, d.e1, _, rfl, .inl ⟨_, Sum.inr z, .of e1, rfl, (dP_some nd hj0 ht).symm⟩, k kd m1 en (by simpa using m2) t (tt.2 j t kd ht hk)⟩
    · rw [decide_eq_false m]
      refine yes rfl ⟨_, rfl, err_read rfl (by decide) ⟨z, rfl, zl⟩ (kU fun q hq e o => m (List.mem_map.mpr ⟨q, List.mem_filter.mpr ⟨hq, by simpa using o⟩, e⟩))⟩
theorem scSMany : FnScope ["self", "name"] ["self", "name"] (defScope sSiteManyStandings) := ⟨rfl, rfl, rfl, by decide +kernel, rfl, by decide +kernel, by decide +kernel⟩
theorem ok_many {f CS : Addr} {fd : FuncData} {n : Kn} (F : Fun K "many_standings" "Site.many_standings" sSiteManyStandings f fd) (sc : SCls K CS) (O : ErrOk P w K mg base "Unknown" n.CU 1 okUnknown fsUnknown) :
    FnOk P w K mg base (L2.CX P w) 3 f fd ["self", "name"] (spOneSt K n CS false) := by
  refine F.okX scSMany (fun vs H Q E h => ?_) (fun cdv A outer s H vs Q E' hr h => ?_)
  · obtain ⟨s, d, xs, ks, z, rfl, _⟩ := h
    rfl
  · obtain ⟨s, d, xs, ks, z, rfl, st, zl, kU, k⟩ := h
    have hu := hu_of hr
    refine ⟨_, pss_cons (ps_if (pt_cmp (pc_dnotin hu (pv 1) (pe_fld (pv 0) rfl))) (pss_one (ps_raise rfl (takes_of rfl rfl rfl rfl) (pmk_err O hr rfl (pa_cons (pv 1) pa_nil)))) pss_nil)
      (pss_one (ps_ret (pe_dget hu (pe_fld (pv 0) rfl) (pv 1) (fun _ _ => rfl)))), ?_⟩
    obtain ⟨dx, es⟩ := st.ins
    obtain ⟨ts, e1, tt⟩ := st.many
    have nd := st.nds (fun k => !k.one)
    have tl : ((ks.filter (fun k => !k.one)).map (·.nm)).length = ts.length := by rw [List.length_map, tt.1]
    refine ⟨_, rfl, _, rfl, s, CS, dx, _, _, rfl, es, sc.cls, sc.nM, rfl, d.e2, _, rfl, DGet.k (k := Sum.inr z) e1, _, rfl, ?_⟩
    unfold manysN
    rw [dP_is nd tl]
    by_cases m : z ∈ (ks.filter (fun k => !k.one)).map (·.nm)
    · rw [decide_eq_true m]
      obtain ⟨j, hj⟩ := List.mem_iff_getElem?.mp m
      have hj0 := hj
      rw [List.getElem?_map] at hj
      obtain ⟨kd, hk, en⟩ := Option.map_eq_some_iff.mp hj
      obtain ⟨t, ht⟩ : ∃ t, ts[j]? = some t := ⟨_, List.getElem?_eq_getElem (by rw [tt.1]; exact (List.getElem?_eq_some_iff.mp hk).1)⟩
      obtain ⟨m1, m2⟩ := List.mem_filter.mp (List.mem_of_getElem? hk)
      refine no rfl ⟨_, rfl, s, CS, dx, _, _, rfl, es, sc.cls, sc.nM, rfl, _, rfl, d.e2, _, rfl, .inl ⟨_, Sum.inr z, .of e1, rfl, (dP_some nd hj0 ht).symm⟩, k kd m1 en (by simpa using m2) t (tt.2 j t kd ht hk)⟩
    · rw [decide_eq_false m]
      refine yes rfl ⟨_, rfl, err_read rfl (by decide) ⟨z, rfl, zl⟩ (kU fun q hq e o => m (List.mem_map.mpr ⟨q, List.mem_filter.mpr ⟨hq, by simpa using o⟩, e⟩))⟩
end
end Yd
namespace Yd
open PySem L2
/-! ### the class Site: names are checked; what is present -/
/-- the first of the places that is no standing of its kind -/
def badPl : List KD → List Str → Option Str
  | k :: ks, p :: ps => if p ∈ k.ss then badPl ks ps else some p
  | _, _ => none
def badSp (ks : List KD) (p : Pr) : Option Str := match ks.find? (fun k => !k.one && decide (k.nm = p.1)) with
  | none => some p.1
  | some k => if p.2 ∈ k.ss then none else some p.2
def badHo (ks : List KD) : List Pr → Option Str
  | [] => none
  | p :: ps => match badSp ks p with
    | some z => some z
    | none => badHo ks ps
/-- the first unknown name of places and hold -/
def badN (ks : List KD) (ps : List Str) (hs : List Pr) : Option Str := match badPl (ks.filter (·.one)) ps with
  | some z => some z
  | none => badHo ks hs
theorem find_many {ks : List KD} (nd : (ks.map (·.nm)).Nodup) {k : KD} (hk : k ∈ ks) (ho : k.one = false) {z : Str} (e : k.nm = z) : ks.find? (fun k => !k.one && decide (k.nm = z)) = some k := by
  cases q : ks.find? (fun k => !k.one && decide (k.nm = z)) with
  | none =>
    have := List.find?_eq_none.mp q k hk
    simp [ho, e] at this
  | some k' =>
    have h1 := List.mem_of_find?_eq_some q
    have h2 := List.find?_some q
    simp at h2
    rw [name_at nd h1 hk (h2.2.trans e.symm)]
theorem find_no {ks : List KD} {z : Str} (h : ∀ k ∈ ks, k.nm = z → k.one ≠ false) : ks.find? (fun k => !k.one && decide (k.nm = z)) = none := by
  refine List.find?_eq_none.mpr fun k hk => ?_
  have := h k hk
  simp
  intro h1 h2
  exact this h2 h1
/-- what an error that leaves a walk over a hold tells of the heap -/
def RaisedL (C dh : Addr) (hs : List Pr) (us : List V) (fs : List V → List (Str × V)) (H : Hp) (E : XK) : Prop :=
  ∀ d H', H d = none → (∀ q o, H q = some o → q ≠ dh → H' q = some o) → (H' dh = some (.dT (pD hs)) ∨ ∃ od, H' dh = some (.frz od (.dT (pD hs)))) → H' d = some (.xd (fs us)) → E (.ref C) (some d) H'
/-- the sorts of things that a site is made of -/
def Kin (o : HO) : Prop := (∃ C dx fs, o = .ins C dx fs) ∨ (∃ kvs, o = .dK kvs) ∨ ∃ xs, o = .tup xs
section
variable {H H' : Hp} {n : Kn}
theorem PartAt.keepO {x : PX} {k : KD} (h : PartAt H n x k) (s : ∀ b o, H b = some o → Kin o → H' b = some o) : PartAt H' n x k :=
  ⟨⟨s _ _ h.pa.at_ (.inl ⟨_, _, _, rfl⟩), h.pa.S.keep fun b kvs e => s _ _ e (.inr (.inl ⟨_, rfl⟩)), h.pa.D.keepT (s _ _ h.pa.D.d (.inr (.inl ⟨_, rfl⟩))) fun b xs e => s _ _ e (.inr (.inr ⟨_, rfl⟩)), h.pa.n1, h.pa.n2⟩, h.m⟩
theorem PartsAt.keepO (s : ∀ b o, H b = some o → Kin o → H' b = some o) : ∀ {xs : List PX} {ks : List KD}, PartsAt H n xs ks → PartsAt H' n xs ks
  | [], [], _ => True.intro
  | _ :: _, _ :: _, ⟨h, d, r⟩ => ⟨h.keepO s, d, PartsAt.keepO s r⟩
  | [], _ :: _, h => h.elim
  | _ :: _, [], h => h.elim
theorem SiteAt.keepO {CS s : Addr} {d : SD} {xs : List PX} {ks : List KD} (h : SiteAt H n CS s d xs ks) (k : ∀ b o, H b = some o → Kin o → H' b = some o) : SiteAt H' n CS s d xs ks :=
  have kt : ∀ b xs, H b = some (.tup xs) → H' b = some (.tup xs) := fun b xs e => k _ _ e (.inr (.inr ⟨_, rfl⟩))
  have kd : ∀ b kvs, H b = some (.dK kvs) → H' b = some (.dK kvs) := fun b xs e => k _ _ e (.inr (.inl ⟨_, rfl⟩))
  ⟨let ⟨dx, e⟩ := h.ins; ⟨dx, k _ _ e (.inl ⟨_, _, _, rfl⟩)⟩, kd _ _ h.dict, h.parts.keepO k, h.nd, h.no, let ⟨ts, e, q⟩ := h.one; ⟨ts, kd _ _ e, q.keepT kt⟩, let ⟨ts, e, q⟩ := h.many; ⟨ts, kd _ _ e, q.keepT kt⟩, let ⟨ys, e, q⟩ := h.order; ⟨ys, kt _ _ e, q.keepT kt⟩⟩
/-- a dict with tuple keys changes -/
theorem kin_offT {dh : Addr} {kvs : List (List Key × V)} (hd : H dh = some (.dT kvs)) (g : ∀ q o, H q = some o → q ≠ dh → H' q = some o) : ∀ b o, H b = some o → Kin o → H' b = some o := fun b o e k => g b o e fun q => by
  rw [q, hd] at e
  cases e
  rcases k with ⟨_, _, _, z⟩ | ⟨_, z⟩ | ⟨_, z⟩ <;> cases z
end
def spCheckN (K : PySem.W.Frag) (n : Kn) (CS CH : Addr) : Sp := fun vs H Q E => ∃ (s : Addr) (d : SD) (xs : List PX) (ks : List KD) (pl : Addr) (ps : List Str) (h dh : Addr) (hs : List Pr), vs = [.ref s, .ref pl, .ref h] ∧ SiteAt H n CS s d xs ks ∧ ks.length ≤ 60 ∧ (∀ k ∈ ks, KdFit k) ∧
  SqT K H pl (ps.map V.str) ∧ ps.length = (singlesN ks).length ∧ (∀ p ∈ ps, p.length ≤ 100) ∧ HoldAt H CH h dh hs ∧ hs.length ≤ 500 ∧ (∀ q ∈ hs, q.1.length ≤ 100 ∧ q.2.length ≤ 100) ∧
  (∀ z, badN ks ps hs = some z → RaisedL n.CU dh hs [.str z] fsUnknown H E) ∧ (badN ks ps hs = none → ∀ H', Same H H' → Q .non H')
section
variable {P : Program} {w : World} {K : PySem.W.Frag} {mg : Str → Option Value} {base : Heap}
def nSCheck : List Str := ["self", "places", "hold", "name", "standing"]
theorem scSCheck : FnScope nSCheck ["self", "places", "hold"] (defScope sSiteCheckNames) := ⟨rfl, rfl, rfl, by decide +kernel, rfl, by decide +kernel, by decide +kernel⟩
theorem ok_checkN {f fS fO fM CS CH : Addr} {fd dS dO dM : FuncData} {n : Kn} (F : Fun K "check_names" "Site.check_names" sSiteCheckNames f fd) (E0' : KEnv P w K mg base n) (sc : SCls K CS) (c : HoldC P w K mg base CH) (hZ : mg "zip" = none) (O : ErrOk P w K mg base "Unknown" n.CU 1 okUnknown fsUnknown)
    (mS : Meth K CS "singles" fS) (GS : FnOk P w K mg base CX0 2 fS dS ["self"] (spSingles n CS)) (bS : Binds K dS ["self"] [])
    (mO : Meth K CS "single_standings" fO) (GO : FnOk P w K mg base (L2.CX P w) 3 fO dO ["self", "name"] (spOneSt K n CS true)) (bO : Binds K dO ["self", "name"] [])
    (mM : Meth K CS "many_standings" fM) (GM : FnOk P w K mg base (L2.CX P w) 3 fM dM ["self", "name"] (spOneSt K n CS false)) (bM : Binds K dM ["self", "name"] []) :
    FnOk P w K mg base (L2.CX P w) 4 f fd ["self", "places", "hold"] (spCheckN K n CS CH) := by
  refine F.okX scSCheck (fun vs H Q E h => ?_) (fun cdv A outer s H vs Q E hr h => ?_)
  · obtain ⟨s, d, xs, ks, pl, ps, h', dh, hs, rfl, _⟩ := h
    rfl
  · obtain ⟨s, d, xs, ks, pl, ps, h, dh, hs, rfl, st, k60, fit, hpl, pln, pll, hh, h500, hsl, kU, kN⟩ := h
    obtain ⟨fi, fl, fdi, fdl, hc, GI, bI, GL, bL⟩ := c.st
    have r1 : Room 1 _ := hr.mono (by decide)
    have r2 : Room 2 _ := hr.mono (by decide)
    refine ⟨_, pss_cons (ps_for (passes_of rfl) rfl (RZ.pi_zipA (by rfl) hZ (pa_cons (pe_meth0 (pv 0) sc.cls mS GS r2 bS .nil pass0) (pa_cons (pv 1) pa_nil))) (pg_tup (by rfl) (pgs_cons (pg_name (i := 3) scSCheck.nd rfl (Or.inl rfl)) (pgs_cons (pg_name (i := 4) scSCheck.nd rfl (Or.inl rfl)) pgs_nil)))
        (pss_one (ps_if (pt_cmpR op_notIn_seq (pv 4) (pe_meth (E := fun _ _ _ => False) (pv 0) sc.cls mO GO hr bO .nil passF (pa_cons (pv 3) pa_nil)) rfl) (pss_one (ps_raise rfl (takes_of rfl rfl rfl rfl) (pmk_err O r2 rfl (pa_cons (pv 4) pa_nil)))) pss_nil)))
      (pss_one (ps_lock (ps_for (passes_of rfl) rfl (pi_own (pv 2) hc.it.at_ hc.it.fn GI r1 bI) (pg_tup (by rfl) (pgs_cons (pg_name (i := 3) scSCheck.nd rfl (Or.inl rfl)) (pgs_cons (pg_name (i := 4) scSCheck.nd rfl (Or.inl rfl)) pgs_nil)))
        (pss_one (ps_if (pt_cmpR op_notIn_seq (pv 4) (pe_meth (E := E) (pv 0) sc.cls mM GM hr bM .nil (passes_call (takes_of rfl rfl rfl rfl) fun _ _ _ _ h => h) (pa_cons (pv 3) pa_nil)) rfl) (pss_one (ps_raise rfl (takes_of rfl rfl rfl rfl) (pmk_err O r2 rfl (pa_cons (pv 4) pa_nil)))) pss_nil))))), ?_⟩
    obtain ⟨dx, es⟩ := st.ins
    refine ⟨_, rfl, s, dx, _, rfl, es, rfl, s, d, xs, ks, rfl, st, k60, fun q H1 s1 hq e1 => ⟨_, rfl, q, pl, (singlesN ks).map V.str, ps.map V.str, rfl, .inr ⟨SqT.of e1, same_seqT s1 hpl, ?_⟩⟩⟩
    have lS : (singlesN ks).length = ps.length := pln.symm
    have sN : singlesN ks = (ks.filter (·.one)).map (·.nm) := rfl
    have lF : (ks.filter (·.one)).length = ps.length := by rw [← lS, sN, List.length_map]
    refine RZ.for_zipT (by rw [List.length_map, List.length_map, lS]) (fun i σ H' => Same H1 H' ∧ badPl (ks.filter (·.one)) ps = badPl ((ks.filter (·.one)).drop i) (ps.drop i) ∧ ∃ v3 v4 : Option V, σ = [some (.ref s), some (.ref pl), some (.ref h), v3, v4])
      ⟨Same.refl _, rfl, _, _, rfl⟩ (fun i σ H' z => ⟨SqT.of (z.1 _ _ e1), same_seqT z.1 (same_seqT s1 hpl)⟩) ?_ ?_
    · rintro i x y T σ H' hx hy ⟨s2, eb, v3, v4, rfl⟩ hT
      obtain ⟨nm, hnm, rfl⟩ := get_strs2 hx
      obtain ⟨p, hp, rfl⟩ := get_strs2 hy
      rw [sN, List.getElem?_map] at hnm
      obtain ⟨kd, hkd, rfl⟩ := Option.map_eq_some_iff.mp hnm
      obtain ⟨mk, mo⟩ := List.mem_filter.mp (List.mem_of_getElem? hkd)
      have s3 := same_new (o := .tup [.str kd.nm, .str p]) hT
      have st3 := (st.keep s1).keep (s2.trans s3)
      obtain ⟨dx3, es3⟩ := st3.ins
      have ft := fit kd mk
      have bd : badPl ((ks.filter (·.one)).drop i) (ps.drop i) = if p ∈ kd.ss then badPl ((ks.filter (·.one)).drop (i + 1)) (ps.drop (i + 1)) else some p := by
        have l1 := (List.getElem?_eq_some_iff.mp hkd)
        have l2 := (List.getElem?_eq_some_iff.mp hp)
        rw [List.drop_eq_getElem_cons l1.1, List.drop_eq_getElem_cons l2.1, l1.2, l2.2]
        rfl
      refine ⟨T, _, rfl, SqT.of upd_same, rfl, _, _, rfl, _, _, rfl, rfl, ?_⟩
      refine ⟨_, rfl, _, rfl, s, dx3, _, rfl, es3, rfl, _, rfl, s, d, xs, ks, kd.nm, rfl, st3, ft.nl, fun hn => absurd mo (hn kd mk rfl), fun k' hk' en _ t ht => ?_⟩
      have ek := name_at st.nd hk' mk en
      subst ek
      refine ⟨t, _, rfl, .inr (SqT.of ht), rfl, flat_strs _, _, rfl, ?_⟩
      show if (!inV (.str p) (k'.ss.map V.str)) = true then _ else _
      rw [inV_strs]
      have s34 : Same H' (upd H' T (.tup [.str k'.nm, .str p])) := s3
      by_cases m : p ∈ k'.ss
      · rw [decide_eq_true m]
        refine no rfl ⟨s2.trans s34, ?_, _, _, rfl⟩
        rw [eb, bd, if_pos m]
      · rw [decide_eq_false m]
        refine yes rfl ⟨_, rfl, err_read rfl (by decide) ⟨p, rfl, pll p (List.mem_of_getElem? hp)⟩ fun d' H2 s5 hd' hx' => ?_⟩
        have eN : badN ks ps hs = some p := by
          unfold badN
          rw [eb, bd, if_neg m]
        have sA : Same H (upd H' T (.tup [.str k'.nm, .str p])) := s1.trans (s2.trans s34)
        exact kU p eN d' H2 (sA.free hd') (fun q o e _ => s5 _ _ (sA q o e)) (.inl (s5 _ _ (sA _ _ hh.dict))) hx'
    · rintro σ H2 ⟨s2, eb, v3, v4, rfl⟩
      have eb0 : badPl (ks.filter (·.one)) ps = none := by
        rw [eb]
        have : (ks.filter (·.one)).drop ((singlesN ks).map V.str).length = [] := List.drop_eq_nil_of_le (by rw [List.length_map, lS, lF]; exact Nat.le_refl _)
        rw [this]
        rfl
      have s12 := s1.trans s2
      have hh2 := hh.keep s12
      obtain ⟨dh2, eh2⟩ := hh2.ins
      have nhd : h ≠ dh := ne_of eh2 hh2.dict (fun z => nomatch z)
      refine ⟨dh, _, hh2.dict, True.intro, fun od => ?_⟩
      refine ⟨_, rfl, h, dh2, _, rfl, by rw [upd_ne nhd]; exact eh2, fun m => ⟨h, CH, dh2, dh, od, hs, rfl, by rw [upd_ne nhd]; exact eh2, c.h, upd_same, fun it hit hn => ⟨it, dh, od, _, rfl, hn, upd_same, .inr ⟨_, by rw [upd_ne (ne_of_none upd_same hit)]; exact upd_same, rfl, ?_⟩⟩⟩⟩
      rw [ItX.dropH_upd hit]
      have base2 : ∀ q o, H2 q = some o → q ≠ dh → upd H2 dh (.frz od (.dT (pD hs))) q = some o := fun q o e n => by rw [upd_ne n]; exact e
      have edh : upd H2 dh (.frz od (.dT (pD hs))) dh = some (.frz od (.dT (pD hs))) := upd_same
      have bk : ∀ b, upd H2 dh (.frz od (.dT (pD hs))) b = none → H2 b = none := fun b e => by
        by_cases q : b = dh
        · rw [q, upd_same] at e; cases e
        · rw [upd_ne q] at e; exact e
      have st2 := st.keep s12
      refine for_run (n := hs.length) (fun j σ H' => (∀ q o, H2 q = some o → q ≠ dh → H' q = some o) ∧ H' dh = some (.frz od (.dT (pD hs))) ∧ badHo ks hs = badHo ks (hs.drop j) ∧ ∃ v3 v4 : Option V, σ = [some (.ref s), some (.ref pl), some (.ref h), v3, v4])
        ⟨base2, edh, rfl, _, _, rfl⟩ (fun j σ H' hj z => ⟨z.2.1, by rw [pD_len]; exact hj⟩) (fun σ H' z => ⟨z.2.1, by rw [pD_len]; exact Nat.le_refl _⟩) ?_ ?_
      · rintro j y σ H' H3 hj ⟨g2, e2, eb2, v3, v4, rfl⟩ ⟨rfl, kk, v, q, hk, rfl, hq'⟩
        unfold pD at hk
        rw [List.getElem?_map] at hk
        obtain ⟨p, hp, ek⟩ := Option.map_eq_some_iff.mp hk
        cases ek
        rw [kP_map] at hq'
        obtain ⟨pl1, pl2⟩ := hsl p (List.mem_of_getElem? hp)
        have st3 := st2.keepO (kin_offT hh2.dict g2)
        obtain ⟨dx3, es3⟩ := st3.ins
        have bd : badHo ks (hs.drop j) = match badSp ks p with | some z => some z | none => badHo ks (hs.drop (j + 1)) := by
          have l2 := (List.getElem?_eq_some_iff.mp hp)
          rw [List.drop_eq_getElem_cons l2.1, l2.2]
          rfl
        have eN : ∀ z, badSp ks p = some z → badN ks ps hs = some z := fun z ez => by
          unfold badN
          rw [eb0, eb2, bd, ez]
        have raise : ∀ z, badSp ks p = some z → Raised n.CU [.str z] fsUnknown H3 E := fun z ez d' H4 s4 hd' hx' => by
          refine kU z (eN z ez) d' H4 ?_ (fun q o e ne => s4 _ _ (g2 q o (s12 q o e) ne)) (.inr ⟨od, s4 _ _ e2⟩) hx'
          cases e : H d' with
          | none => rfl
          | some o =>
            by_cases w' : d' = dh
            · rw [w', e2] at hd'; cases hd'
            · rw [g2 d' o (s12 _ _ e) w'] at hd'; cases hd'
        refine ⟨q, _, rfl, SqT.of hq', rfl, _, _, rfl, _, _, rfl, rfl, ?_⟩
        refine ⟨_, rfl, _, rfl, s, dx3, _, rfl, es3, rfl, _, rfl, s, d, xs, ks, p.1, rfl, st3, pl1, fun hn => raise p.1 ?_, fun k' hk' en ho t ht => ?_⟩
        · unfold badSp
          rw [find_no hn]
        · refine ⟨t, _, rfl, .inr (SqT.of ht), rfl, flat_strs _, _, rfl, ?_⟩
          show if (!inV (.str p.2) (k'.ss.map V.str)) = true then _ else _
          rw [inV_strs]
          have s5 := Same.refl H3
          have es_ : badSp ks p = if p.2 ∈ k'.ss then none else some p.2 := by
            unfold badSp
            rw [find_many st.nd hk' ho en]
          by_cases m : p.2 ∈ k'.ss
          · rw [decide_eq_true m]
            refine no rfl ⟨fun q o e ne => s5 _ _ (g2 q o e ne), s5 _ _ e2, ?_, _, _, rfl⟩
            rw [eb2, bd, es_, if_pos m]
          · rw [decide_eq_false m]
            refine yes rfl ⟨_, rfl, err_read rfl (by decide) ⟨p.2, rfl, pl2⟩ ?_⟩
            have r := raise p.2 (by rw [es_, if_neg m])
            exact fun d' H4 s4 hd' hx' => r d' H4 (s5.trans s4) (s5.free hd') hx'
      · rintro σ H' ⟨g2, e2, eb2, v3, v4, rfl⟩
        refine ⟨e2, kN ?_ _ (s12.trans (same_unlock hh2.dict g2))⟩
        unfold badN
        rw [eb0, eb2, List.drop_length]
        rfl
end
end Yd
namespace Yd
open PySem L2
/-! ### the class Site: what is present -/
def presentL (ks : List KD) (ps : List Str) (hs : List Pr) : List Pr := (allS ks).filter fun p => decide (p ∈ (singlesN ks).zip ps ++ hs)
def spPresent (K : PySem.W.Frag) (n : Kn) (CS CH : Addr) : Sp := fun vs H Q E => ∃ (s : Addr) (d : SD) (xs : List PX) (ks : List KD) (pl : Addr) (ps : List Str) (h dh : Addr) (hs : List Pr), vs = [.ref s, .ref pl, .ref h] ∧ SiteAt H n CS s d xs ks ∧ ks.length ≤ 60 ∧ (∀ k ∈ ks, KdFit k) ∧
  SqT K H pl (ps.map V.str) ∧ ps.length = (singlesN ks).length ∧ (∀ p ∈ ps, p.length ≤ 100) ∧ HoldAt H CH h dh hs ∧ hs.length ≤ 500 ∧ (∀ q ∈ hs, q.1.length ≤ 100 ∧ q.2.length ≤ 100) ∧
  (∀ z, badN ks ps hs = some z → RaisedL n.CU dh hs [.str z] fsUnknown H E) ∧ (badN ks ps hs = none → ∀ q ys H', Same H H' → H q = none → H' q = some (.tup ys) → PairsAt H' ys (presentL ks ps hs) → Q (.ref q) H')
theorem zip_pairs {H : Hp} {as bs : List Str} {ts : List Addr} (l : ts.length = as.length) (e : as.length = bs.length) (h : ∀ (j : Nat) (x y : V), (as.map V.str)[j]? = some x → (bs.map V.str)[j]? = some y → ∃ T, ts[j]? = some T ∧ H T = some (.tup [x, y])) : PairsAt H (ts.map V.ref) (as.zip bs) := by
  induction as generalizing ts bs with
  | nil =>
    cases ts with
    | nil => cases bs with
      | nil => exact True.intro
      | cons b bs => cases e
    | cons t ts => cases l
  | cons a as ih =>
    cases bs with
    | nil => cases e
    | cons b bs =>
      cases ts with
      | nil => cases l
      | cons t ts =>
        obtain ⟨T, h1, h2⟩ := h 0 _ _ rfl rfl
        cases h1
        exact ⟨⟨t, rfl, h2⟩, ih (by simpa using l) (by simpa using e) fun j x y hx hy => h (j + 1) x y hx hy⟩
section
variable {P : Program} {w : World} {K : PySem.W.Frag} {mg : Str → Option Value} {base : Heap}
def nSPresent : List Str := ["self", "places", "hold", "standing", "here"]
theorem scSPresent : FnScope nSPresent ["self", "places", "hold"] (defScope sSitePresent) := ⟨rfl, rfl, rfl, by decide +kernel, rfl, by decide +kernel, by decide +kernel⟩
theorem ok_present {f fS fC fA CS CH : Addr} {fd dS dC dA : FuncData} {n : Kn} (F : Fun K "present" "Site.present" sSitePresent f fd) (sc : SCls K CS) (c : HoldC P w K mg base CH) (hZ : mg "zip" = none) (hL : mg "list" = none) (hT : mg "tuple" = none)
    (mC : Meth K CS "check_names" fC) (GC : FnOk P w K mg base (L2.CX P w) 4 fC dC ["self", "places", "hold"] (spCheckN K n CS CH)) (bC : Binds K dC ["self", "places", "hold"] [])
    (mS : Meth K CS "singles" fS) (GS : FnOk P w K mg base CX0 2 fS dS ["self"] (spSingles n CS)) (bS : Binds K dS ["self"] [])
    (mA : Meth K CS "all_standings" fA) (GA : FnOk P w K mg base CX0 3 fA dA ["self"] (spAllSt n CS)) (bA : Binds K dA ["self"] []) :
    FnOk P w K mg base (L2.CX P w) 5 f fd ["self", "places", "hold"] (spPresent K n CS CH) := by
  refine F.okX scSPresent (fun vs H Q E h => ?_) (fun cdv A outer s H vs Q E hr h => ?_)
  · obtain ⟨s, d, xs, ks, pl, ps, h', dh, hs, rfl, _⟩ := h
    rfl
  · obtain ⟨s, d, xs, ks, pl, ps, h, dh, hs, rfl, st, k60, fit, hpl, pln, pll, hh, h500, hsl, kU, kN⟩ := h
    obtain ⟨fi, fl, fdi, fdl, hc, GI, bI, GL, bL⟩ := c.st
    have hu := hu_of hr
    have r2 : Room 2 _ := hr.mono (by decide)
    have r3 : Room 3 _ := hr.mono (by decide)
    have r4 : Room (1 + 3) _ := hr.mono (by decide)
    refine ⟨_, pss_cons (ps_expr (pe_meth (E := E) (pv 0) sc.cls mC GC hr bC .nil (passes_call (takes_of rfl rfl rfl rfl) fun _ _ _ _ h => h) (pa_cons (pv 1) (pa_cons (pv 2) pa_nil))))
      (pss_cons (ps_set (i := 4) scSPresent.nd rfl (Or.inr rfl) (pe_dp (own := [("standing", 3)]) (g := gName 3) (tt := tYes) (tk := tVar 3) (tv := tC (.bl true)) (Nat.lt_trans (Nat.lt_succ_self _) hu) rfl scSPresent.nd
          (pi_list (pe_op op_cat (pe_listZip rfl (by rfl) hL (by decide +kernel) (by rfl) hZ (pa_cons (pe_meth0 (pv 0) sc.cls mS GS r2 bS .nil pass0) (pa_cons (pv 1) pa_nil)))
            (pe_lock (pe_callTy (call_listO hc GI bI GL bL r4 rfl) (by rfl) hL (by decide +kernel) (pa_cons (pv 2) pa_nil)))))
          (blkOk_by (N := nSPresent) (sc := defScope sSitePresent) (by decide +kernel)) (fun _ _ _ _ _ => pg_name (i := 3) scSPresent.nd rfl (Or.inl rfl)) (fun _ _ _ _ _ => pts_nil) (fun _ _ _ _ _ => pv 3) (fun _ _ _ _ _ => pe_bl)))
      (pss_one (ps_ret (pe_callTy call_tuple_of (by rfl) hT (by decide +kernel) (pa_cons (pe_lc (own := [("standing", 3)]) (g := gName 3) (tt := tB (tDIn (tVar 3) (tVar 4))) (te := tVar 3) rfl scSPresent.nd
          (pi_tup (pe_meth0 (pv 0) sc.cls mA GA r3 bA .nil pass0)) (blkOk_by (N := nSPresent) (sc := defScope sSitePresent) (by decide +kernel))
          (fun _ _ _ _ _ => pg_name (i := 3) scSPresent.nd rfl (Or.inl rfl)) (fun _ _ _ _ _ => pts_one (pt_cmp (pc_din hu (pv 3) (pv 4)))) (fun _ _ _ _ _ => pv 3)) pa_nil))))), ?_⟩
    obtain ⟨dx, es⟩ := st.ins
    refine ⟨_, rfl, s, dx, _, rfl, es, rfl, _, rfl, _, rfl, s, d, xs, ks, pl, ps, h, dh, hs, rfl, st, k60, fit, hpl, pln, pll, hh, h500, hsl, kU, fun eb H1 s1 => ?_⟩
    have st1 := st.keep s1
    obtain ⟨dx1, es1⟩ := st1.ins
    have lS : (singlesN ks).length = ps.length := pln.symm
    have lS60 : (singlesN ks).length ≤ 60 := by
      unfold singlesN
      rw [List.length_map]
      exact Nat.le_trans (List.length_filter_le ..) k60
    refine ⟨_, rfl, s, dx1, _, rfl, es1, rfl, s, d, xs, ks, rfl, st1, k60, fun q H2 s2 hq e2 => ⟨_, rfl, q, pl, (singlesN ks).map V.str, ps.map V.str, rfl, SqT.of e2, same_seqT (s1.trans s2) hpl, by rw [List.length_map, List.length_map, lS], by rw [List.length_map]; omega, fun L ts H3 s3 hL3 eL tl pr => ?_⟩⟩
    rw [List.length_map] at tl
    have pz : PairsAt H3 (ts.map V.ref) ((singlesN ks).zip ps) := zip_pairs tl lS pr
    have s13 := s1.trans (s2.trans s3)
    have hh3 := hh.keep s13
    obtain ⟨dhx, eh3⟩ := hh3.ins
    have nhd : h ≠ dh := ne_of eh3 hh3.dict (fun z => nomatch z)
    have big : ∀ n : Nat, n ≤ 600 → n ≤ sizeLine := fun n h => Nat.le_of_lt (small1000 (by omega))
    refine ⟨dh, _, hh3.dict, True.intro, fun od => ?_⟩
    have eh4 : upd H3 dh (.frz od (.dT (pD hs))) h = some (.ins CH dhx [("_spots", .ref dh)]) := by rw [upd_ne nhd]; exact eh3
    have ed4 : upd H3 dh (.frz od (.dT (pD hs))) dh = some (.frz od (.dT (pD hs))) := upd_same
    refine ⟨_, rfl, h, dhx, _, dh, od, _, rfl, eh4, ed4, fun m => ⟨h, CH, dhx, dh, od, hs, rfl, eh4, c.h, ed4, fun it hit hn => ⟨it, rfl, hn, hit, rfl⟩⟩, fun H4 ha hd => ⟨h, CH, dhx, dh, hs, rfl, ha, c.h, .inr ⟨od, hd⟩, rfl, _, rfl, big _ (by omega)⟩, by rw [pD_len]; exact big _ (by omega), fun bs L2 hL2 ik => ?_⟩
    have nLd : L2 ≠ dh := fun z => by rw [z, ed4] at hL2; cases hL2
    have bl : bs.length = hs.length := by
      have := (Paired.length ik)
      rw [pD_len] at this
      exact this.symm
    have nL : L ≠ dh := fun z => by rw [z, hh3.dict] at eL; cases eL
    have nLL : L ≠ L2 := fun z => by rw [← z, upd_ne nL, eL] at hL2; cases hL2
    have p2 : PairsAt H3 (bs.map V.ref) hs := (keys_refs ik).keep fun t ys e => by
      by_cases m2 : t = dh
      · rw [m2, upd_same] at e; cases e
      · rw [upd_ne m2] at e; exact e
    have hL2' : H3 L2 = none := by rw [upd_ne nLd] at hL2; exact hL2
    refine ⟨by rw [upd_ne nLd.symm]; exact ed4, L, L2, ts.map V.ref, bs.map V.ref, rfl, rfl, by rw [upd_ne nL, upd_ne nLL, upd_ne nL]; exact eL, by rw [upd_ne nLd, upd_same], by rw [List.length_map, List.length_map, tl, bl]; exact big _ (by omega), fun L3 hL3' => ?_⟩
    have s5 : Same H3 (upd (upd (upd (upd H3 dh (.frz od (.dT (pD hs)))) L2 (.lst (bs.map V.ref))) dh (.dT (pD hs))) L3 (.lst (ts.map V.ref ++ bs.map V.ref))) := by
      have a : Same H3 (upd (upd (upd H3 dh (.frz od (.dT (pD hs)))) L2 (.lst (bs.map V.ref))) dh (.dT (pD hs))) := same_unlock hh3.dict fun q o e n => by rw [upd_ne (ne_of_none e hL2'), upd_ne n]; exact e
      exact a.trans (same_new hL3')
    have e5 : upd (upd (upd (upd H3 dh (.frz od (.dT (pD hs)))) L2 (.lst (bs.map V.ref))) dh (.dT (pD hs))) L3 (.lst (ts.map V.ref ++ bs.map V.ref)) L3 = some (.lst (ts.map V.ref ++ bs.map V.ref)) := upd_same
    generalize upd (upd (upd (upd H3 dh (.frz od (.dT (pD hs)))) L2 (.lst (bs.map V.ref))) dh (.dT (pD hs))) L3 (.lst (ts.map V.ref ++ bs.map V.ref)) = H5 at s5 e5 ⊢
    have pp : PairsAt H5 (ts.map V.ref ++ bs.map V.ref) ((singlesN ks).zip ps ++ hs) := (pz.same s5).app (p2.same s5)
    have lp := pp.len
    have ll : ((singlesN ks).zip ps ++ hs).length ≤ 600 := by rw [List.length_append, List.length_zip, lS]; omega
    refine ⟨L3, rfl, ⟨_, SqL.of e5⟩, fun D hD => ?_⟩
    refine dp_list (K := K) (a := L3) (xs := ts.map V.ref ++ bs.map V.ref) (fun i H' => Same H5 H' ∧ H' D = some (.dT (pD (onceP (((singlesN ks).zip ps ++ hs).take i))))) ⟨same_new hD, upd_same⟩ (fun i H' _ z => SqL.of (z.1 _ _ e5)) ?_ ?_
    · rintro i y H' hi ⟨s6, e6⟩
      obtain ⟨t, p, rfl, hp, ht⟩ := (pp.same s6).get hi
      refine ⟨rfl, _, rfl, _, kP p, t, rfl, by rw [kP_map]; exact ht, e6, small1000 ?_, fun b o e => by rw [upd_ne (ne_of_none e hD)]; exact s6 b o e, ?_⟩
      · rw [pD_len]
        refine Nat.le_trans (onceP_len _) ?_
        rw [List.length_take]
        omega
      · rw [upd_same, pD_put, onceP_more hp]
    rintro H6 ⟨s6, e6⟩
    rw [lp, List.take_length] at e6
    -- what is told
    have s16 := s13.trans (s5.trans s6)
    have st6 := st.keep s16
    obtain ⟨dx6, es6⟩ := st6.ins
    refine ⟨_, rfl, s, dx6, _, rfl, es6, rfl, s, d, xs, ks, rfl, st6, k60, fit, fun q7 ys e7 p7 => ⟨q7, rfl, ⟨_, SqT.of e7⟩, fun D8 hD8 => ?_⟩⟩
    have s7 := Same.refl H6
    have la := allS_len fun k hk => (fit k hk).s10
    have l7 := p7.len
    have eD7 := s7 _ _ e6
    refine walk_run (n := ys.length) (fun j H' => Same H6 H' ∧ ∃ zs, H' D8 = some (.lst zs) ∧ PairsAt H' zs (((allS ks).take j).filter fun p => decide (p ∈ (singlesN ks).zip ps ++ hs))) ⟨same_new hD8, [], upd_same, True.intro⟩ (fun j H' hj z => ⟨_, ys[j], SqT.of (z.1 _ _ e7), List.getElem?_eq_getElem hj⟩) (fun H' z => ⟨_, SqT.of (z.1 _ _ e7), Nat.le_refl _⟩) ?_ ?_
    · rintro j y H' H2 hj ⟨s8, zs, e8, p8⟩ ⟨rfl, gy⟩
      have hy := gy _ (SqT.of (s8 _ _ e7))
      obtain ⟨t, p, rfl, hp, ht⟩ := (p7.same s8).get hy
      refine ⟨rfl, _, rfl, _, rfl, D, _, rfl, .inr ⟨_, kP p, t, .of (s8 _ _ eD7), rfl, by rw [kP_map]; exact ht, rfl⟩, _, rfl, ?_⟩
      rw [pD_val]
      have ft : ((allS ks).take (j + 1)).filter (fun p => decide (p ∈ (singlesN ks).zip ps ++ hs)) = ((allS ks).take j).filter (fun p => decide (p ∈ (singlesN ks).zip ps ++ hs)) ++ (if p ∈ (singlesN ks).zip ps ++ hs then [p] else []) := by
        rw [takeP hp, List.filter_append]
        by_cases q : p ∈ (singlesN ks).zip ps ++ hs
        · rw [if_pos q, List.filter_cons, if_pos (decide_eq_true q)]; rfl
        · rw [if_neg q, List.filter_cons, if_neg (by simpa using q)]; rfl
      by_cases m : p ∈ (singlesN ks).zip ps ++ hs
      · rw [if_pos ((onceP_mem _).mpr m)]
        refine yes rfl ⟨_, rfl, _, e8, small1000 (by
          rw [p8.len]
          refine Nat.le_trans (List.length_filter_le ..) ?_
          rw [List.length_take]
          omega), fun b o e => by rw [upd_ne (ne_of_none e hD8)]; exact s8 b o e, _, upd_same, ?_⟩
        have tk : ∀ b xs, H2 b = some (.tup xs) → upd H2 D8 (.lst (zs ++ [.ref t])) b = some (.tup xs) := fun b xs e => by rw [upd_ne (ne_of e e8 (fun z => nomatch z))]; exact e
        rw [ft, if_pos m]
        exact PairsAt.snoc (tk _ _ ht) (p8.keep tk)
      · rw [if_neg (fun z => m ((onceP_mem _).mp z))]
        refine no rfl ⟨s8, zs, e8, ?_⟩
        rw [ft, if_neg m, List.append_nil]
        exact p8
    · rintro H' ⟨s8, zs, e8, p8⟩
      rw [l7, List.take_length] at p8
      refine ⟨D8, _, rfl, .inl ⟨SqL.of e8, fun q9 hq9 => ?_⟩⟩
      have sA := (s16.trans s7).trans s8
      exact kN eb q9 zs _ (sA.trans (same_new hq9)) (sA.free hq9) upd_same (p8.same (same_new hq9))
end
end Yd
namespace Yd
open PySem L2
/-! ### the helpers of the laws of sites -/
/-- each place is a standing of its kind -/
def PlOk (ks : List KD) (ps : List Str) : Prop := ps.length = (singlesN ks).length ∧ badPl (ks.filter (·.one)) ps = none
def spLSpots : Sp := fun vs H Q _ => ∃ (kl : Addr) (as : List KA) (ks : List KD), vs = [.ref kl] ∧ H kl = some (.lst (refsK as)) ∧ KdsAt H as ks ∧ (∀ k ∈ ks, KdOk k) ∧ ks.length ≤ 11 ∧
  ∀ (q : Addr) ys H', Same H H' → H q = none → H' q = some (.lst ys) → PairsAt H' ys (spotsL ks) → Q (.ref q) H'
def spLPlaces : Sp := fun vs H Q _ => ∃ (p c kl : Addr) (as : List KA) (ks : List KD), vs = [.ref p, .ref kl] ∧ Pool H p c ∧ kl ≠ p ∧ H kl = some (.lst (refsK as)) ∧ KdsAt (off p H) as ks ∧ (∀ k ∈ ks, KdOk k) ∧ ks.length ≤ 11 ∧
  ∀ (q : Addr) ps H', Gro p H H' → Pool H' p c → H q = none → q ≠ p → H' q = some (.tup (ps.map V.str)) → PlOk ks ps → (∀ z ∈ ps, z.length ≤ 12) → Q (.ref q) H'
theorem badPl_snoc : ∀ {S : List KD} {ps : List Str} {k : KD} {z : Str}, S.length = ps.length → badPl S ps = none → z ∈ k.ss → badPl (S ++ [k]) (ps ++ [z]) = none
  | [], [], k, z, _, _, m => by show (if z ∈ k.ss then badPl [] [] else some z) = none; rw [if_pos m]; rfl
  | a :: S, p :: ps, k, z, l, h, m => by
    have h : (if p ∈ a.ss then badPl S ps else some p) = none := h
    show (if p ∈ a.ss then badPl (S ++ [k]) (ps ++ [z]) else some p) = none
    by_cases q : p ∈ a.ss
    · rw [if_pos q] at h ⊢
      exact badPl_snoc (by simpa using l) h m
    · rw [if_neg q] at h
      cases h
  | [], _ :: _, _, _, l, _, _ => by cases l
  | _ :: _, [], _, _, l, _, _ => by cases l
theorem spots_more {ks : List KD} {i : Nat} {k : KD} (h : ks[i]? = some k) : spotsL (ks.take (i + 1)) = spotsL (ks.take i) ++ (if (!k.one) = true then kSpots k else []) := by
  unfold spotsL
  rw [filterK_more h, List.flatMap_append]
  cases e : !k.one <;> simp
theorem spotsL_len {ks : List KD} (h : ∀ k ∈ ks, k.ss.length ≤ 10) : (spotsL ks).length ≤ ks.length * 10 := by
  unfold spotsL
  refine Nat.le_trans (allS_len (ks := ks.filter fun k => !k.one) fun k hk => h k (List.mem_filter.mp hk).1) (Nat.mul_le_mul_right _ (List.length_filter_le ..))
section
variable {P : Program} {w : World} {K : PySem.W.Frag} {mg : Str → Option Value} {base : Heap}
def nLSpots : List Str := ["_law_kinds_here", "_law_rows", "_law_kind_here", "_law_standing"]
theorem scLSpots : FnScope nLSpots ["_law_kinds_here"] (defScope sSpots) := ⟨rfl, rfl, rfl, by decide +kernel, rfl, by decide +kernel, by decide +kernel⟩
theorem ok_lSpots {f : Addr} {fd : FuncData} (F : Fun K "_law_spots" "_law_spots" sSpots f fd) : FnOk P w K mg base CX0 1 f fd ["_law_kinds_here"] spLSpots := by
  refine F.ok scLSpots (fun vs H Q E h => ?_) (fun cdv A outer s H vs Q E hr h => ?_)
  · obtain ⟨kl, as, ks, rfl, _⟩ := h
    rfl
  · obtain ⟨kl, as, ks, rfl, hkl, hks, ok, k11, k⟩ := h
    refine ⟨_, pss_cons (ps_set (i := 1) scLSpots.nd rfl (Or.inl rfl) (pe_lst pa_nil))
      (pss_cons (ps_for PassesOwn.never rfl (pi_list (pv 0)) (pg_name (i := 2) scLSpots.nd rfl (Or.inr rfl))
        (pss_one (ps_if (pt_not (pt_val (pe_ix ix_list (pv 2) pe_int (fun _ _ => rfl))))
          (pss_one (ps_set (i := 1) scLSpots.nd rfl (Or.inl rfl) (pe_op op_cat (pv 1) (pe_lc (own := [("_law_standing", 3)]) (g := gName 3) (tt := tYes) (te := tTup (tCons (tOp (rIxL K) (tVar 2) (tC (.int 0))) (tCons (tVar 3) tNil))) rfl scLSpots.nd
            (pi_list (pe_ix ix_list (pv 2) pe_int (fun _ _ => rfl))) (blkOk_by (N := nLSpots) (sc := defScope sSpots) (by decide +kernel))
            (fun _ _ _ _ _ => pg_name (i := 3) scLSpots.nd rfl (Or.inl rfl)) (fun _ _ _ _ _ => pts_nil) (fun _ _ _ _ _ => pe_tup (pa_cons (pe_ix (r := rIxL K) ix_list (pv 2) pe_int (fun _ _ => rfl)) (pa_cons (pv 3) pa_nil))))))) pss_nil)))
      (pss_one (ps_ret (pv 1)))), ?_⟩
    refine ⟨(by show 0 ≤ sizeLine; omega), fun D hD => ?_⟩
    have lsp : ∀ i, (spotsL (ks.take i)).length ≤ 110 := fun i => by
      refine Nat.le_trans (spotsL_len fun k hk => Nat.le_trans (ok k (List.mem_of_mem_take hk)).s5 (by omega)) ?_
      rw [List.length_take]
      omega
    refine ⟨_, rfl, kl, rfl, ⟨_, SqL.of (same_new hD _ _ hkl)⟩, for_list (K := K) (a := kl) (xs := refsK as)
      (fun i σ H' => Same H H' ∧ ∃ (q : Addr) (ys : List V) (v2 v3 : Option V), H q = none ∧ H' q = some (.lst ys) ∧ PairsAt H' ys (spotsL (ks.take i)) ∧ σ = [some (.ref kl), some (.ref q), v2, v3])
      ⟨same_new hD, D, [], _, _, hD, upd_same, True.intro, rfl⟩ (fun i σ H' _ z => SqL.of (z.1 _ _ hkl)) ?_ ?_⟩
    · rintro i y σ H' hi ⟨s1, q, ys, v2, v3, hq, eq, pq, rfl⟩
      obtain ⟨a, ha, rfl⟩ := refsK_at hi
      obtain ⟨kd, hkd, ka⟩ := hks.at_ ha
      have k' := ka.keep s1
      have kk := ok kd (List.mem_of_getElem? hkd)
      refine ⟨_, rfl, a.u, _, 1, _, rfl, rfl, SqL.of k'.hu, at_c (j := 1) rfl rfl, kd.one, rfl, ?_⟩
      have sm := spots_more hkd
      cases ho : kd.one with
      | true =>
        refine no rfl ⟨s1, q, ys, _, _, hq, eq, ?_, rfl⟩
        rw [sm, ho]
        simpa using pq
      | false =>
        refine yes rfl ⟨_, rfl, _, rfl, a.u, _, 2, _, rfl, rfl, SqL.of k'.hu, at_c (j := 2) rfl rfl, a.l, rfl, ⟨_, SqL.of k'.hl⟩, fun D2 hD2 => ?_⟩
        refine lc_list (K := K) (a := a.l) (xs := kd.ss.map V.str) (fun j H2 => Same H' H2 ∧ ∃ zs, H2 D2 = some (.lst zs) ∧ PairsAt H2 zs ((kSpots kd).take j)) ⟨same_new hD2, [], upd_same, True.intro⟩ (fun j H2 _ z => SqL.of (z.1 _ _ k'.hl)) ?_ ?_
        · rintro j y H2 hj ⟨s2, zs, e2, p2⟩
          obtain ⟨z, hz, rfl⟩ := get_strs2 hj
          have k2 := k'.keep s2
          refine ⟨rfl, _, rfl, a.u, _, 0, _, rfl, rfl, SqL.of k2.hu, at_c (j := 0) rfl rfl, _, rfl, (by show 2 ≤ sizeLine; decide), fun u hu' => ?_⟩
          have s5 := same_new (o := .tup [.str kd.nm, .str z]) hu'
          have eu : upd H2 u (.tup [.str kd.nm, .str z]) u = some (.tup [.str kd.nm, .str z]) := upd_same
          have e5 := s5 _ _ e2
          have p5 := p2.same s5
          have s25 := s2.trans s5
          generalize upd H2 u (.tup [.str kd.nm, .str z]) = H6 at s5 eu e5 p5 s25 ⊢
          have kp : (kSpots kd)[j]? = some (kd.nm, z) := by unfold kSpots; rw [List.getElem?_map, hz]; rfl
          have tk : ∀ b xs, H6 b = some (.tup xs) → upd H6 D2 (.lst (zs ++ [.ref u])) b = some (.tup xs) := fun b xs e => by rw [upd_ne (ne_of e e5 (fun z => nomatch z))]; exact e
          refine ⟨_, e5, small1000 (by
            rw [p5.len, List.length_take, kSpots_len]
            have := kk.s5
            omega), fun b o e => by rw [upd_ne (ne_of_none e hD2)]; exact s25 b o e, _, upd_same, ?_⟩
          rw [takeP kp]
          exact PairsAt.snoc (tk _ _ eu) (p5.keep tk)
        · rintro H2 ⟨s2, zs, e2, p2⟩
          rw [List.length_map] at p2
          have etk : (kSpots kd).take kd.ss.length = kSpots kd := List.take_of_length_le (by rw [kSpots_len]; exact Nat.le_refl _)
          rw [etk] at p2
          have eq2 := s2 _ _ eq
          refine ⟨q, D2, ys, zs, rfl, rfl, eq2, e2, Nat.le_of_lt (small1000 (by
            rw [pq.len, p2.len, kSpots_len]
            have := lsp i
            have := kk.s5
            omega)), fun q3 hq3 => ?_⟩
          have s12 := s1.trans s2
          refine ⟨s12.trans (same_new hq3), q3, _, _, _, s12.free hq3, upd_same, ?_, rfl⟩
          rw [sm, ho]
          show PairsAt _ _ (spotsL (ks.take i) ++ kSpots kd)
          exact ((pq.same s2).app p2).same (same_new hq3)
    · rintro σ H' ⟨s1, q, ys, v2, v3, hq, eq, pq, rfl⟩
      have e : ks.take (refsK as).length = ks := by
        unfold refsK
        rw [List.length_map, hks.len, List.take_length]
      rw [e] at pq
      exact ⟨_, rfl, k q ys H' s1 hq eq pq⟩
def nLPlaces : List Str := ["_law_pool_here", "_law_kinds_here", "_law_kind_here"]
theorem scLPlaces : FnScope nLPlaces ["_law_pool_here", "_law_kinds_here"] (defScope sPlaces) := ⟨rfl, rfl, rfl, by decide +kernel, rfl, by decide +kernel, by decide +kernel⟩
theorem ok_lPlaces {f fT : Addr} {fd dT : FuncData} (F : Fun K "_law_places" "_law_places" sPlaces f fd) (B : Blt mg) (hT : mg "tuple" = none) (TT : Fn K mg "_law_take" sTake ["_law_pool_here", "_law_size"] fT dT) :
    FnOk P w K mg base CX0 2 f fd ["_law_pool_here", "_law_kinds_here"] spLPlaces := by
  have GT : FnOk P w K mg base CX0 1 fT dT ["_law_pool_here", "_law_size"] spTake := ok_take TT.F B
  refine F.ok scLPlaces (fun vs H Q E h => ?_) (fun cdv A outer s H vs Q E hr h => ?_)
  · obtain ⟨p, c, kl, as, ks, rfl, _⟩ := h
    rfl
  · obtain ⟨p, c, kl, as, ks, rfl, hP, nkp, hkl, hks, ok, k11, k⟩ := h
    refine ⟨_, pss_one (ps_ret (pe_callTy call_tuple_of (by rfl) hT (by decide +kernel) (pa_cons (pe_lc (own := [("_law_kind_here", 2)]) (g := gName 2) (tt := tTest (tOp (rIxL K) (tVar 2) (tC (.int 1))))
        (te := tOp (rIxL K) (tOp (rIxL K) (tVar 2) (tC (.int 2))) (tCall spTake [] (fun _ _ _ => False) (tCons (tVar 0) (tCons (tCB (fun xs H Q => ∃ p ys, xs = [.ref p] ∧ (SqL K H p ys ∨ SqT K H p ys) ∧ Q (.int ys.length) H) (tCons (tOp (rIxL K) (tVar 2) (tC (.int 2))) tNil)) tNil)))) rfl scLPlaces.nd
        (pi_list (pv 1)) (blkOk_by (N := nLPlaces) (sc := defScope sPlaces) (by decide +kernel)) (fun _ _ _ _ _ => pg_name (i := 2) scLPlaces.nd rfl (Or.inl rfl))
        (fun _ _ _ _ _ => pts_one (pt_val (pe_ix (r := rIxL K) ix_list (pv 2) pe_int (fun _ _ => rfl))))
        (fun _ _ _ _ _ => pe_ix (r := rIxL K) ix_list (pe_ix (r := rIxL K) ix_list (pv 2) pe_int (fun _ _ => rfl)) (pe_call GT hr rfl TT.g TT.F.kp TT.b .nil pass0 (pa_cons (pv 0) (pa_cons (pe_callB (r := fun xs H Q => ∃ p ys, xs = [.ref p] ∧ (SqL K H p ys ∨ SqT K H p ys) ∧ Q (.int ys.length) H) call_len_seq (by rfl) B.len PySem.boot_len (pa_cons (pe_ix (r := rIxL K) ix_list (pv 2) pe_int (fun _ _ => rfl)) pa_nil)) pa_nil))) (fun _ _ => rfl))) pa_nil))), ?_⟩
    refine ⟨_, rfl, kl, rfl, ⟨_, SqL.of hkl⟩, fun D hD => ?_⟩
    obtain ⟨nDp, nDc⟩ := hP.ne hD
    refine lc_list (K := K) (a := kl) (xs := refsK as) (fun i H' => Gro p H H' ∧ Pool H' p c ∧ ∃ ps : List Str, H' D = some (.lst (ps.map V.str)) ∧ ps.length = ((ks.take i).filter (·.one)).length ∧ badPl ((ks.take i).filter (·.one)) ps = none ∧ ∀ z ∈ ps, z.length ≤ 12)
      ⟨.new hD, hP.new hD, [], upd_same, rfl, rfl, fun _ h => nomatch h⟩ (fun i H' _ z => SqL.of (z.1 _ _ hkl nkp)) ?_ ?_
    · rintro i y H' hi ⟨g1, P1, ps, e1, l1, b1, z1⟩
      obtain ⟨a, ha, rfl⟩ := refsK_at hi
      obtain ⟨kd, hkd, ka⟩ := hks.at_ ha
      have k' := (ka.keep (off_gro g1)).keep off_sub
      have kk := ok kd (List.mem_of_getElem? hkd)
      refine ⟨rfl, _, rfl, a.u, _, 1, _, rfl, rfl, SqL.of k'.hu, at_c (j := 1) rfl rfl, kd.one, rfl, ite2 (fun ho => ?_) (fun ho => ?_)⟩
      · refine ⟨_, rfl, a.u, _, 2, _, rfl, rfl, SqL.of k'.hu, at_c (j := 2) rfl rfl, _, rfl, _, rfl, a.u, _, 2, _, rfl, rfl, SqL.of k'.hu, at_c (j := 2) rfl rfl, a.l, _, rfl, .inl (SqL.of k'.hl), p, c, _, rfl, P1, by rw [List.length_map]; have := kk.s0; omega, by rw [List.length_map]; have := kk.s5; exact Nat.lt_of_le_of_lt (m := 100) (by omega) (by decide), fun v H2 v0 v1 g2 P2 => ?_⟩
        rw [List.length_map] at v1
        obtain ⟨z, hz⟩ : ∃ z, kd.ss[v.toNat]? = some z := ⟨_, List.getElem?_eq_getElem (by omega)⟩
        have k2 := (ka.keep (off_gro (g1.trans g2))).keep off_sub
        have e2 := g2 _ _ e1 nDp
        refine ⟨a.l, _, v, _, rfl, rfl, SqL.of k2.hl, at_s hz (by omega), _, e2, small1000 ?_, fun b o e ne => ?_, P2.off nDp nDc, ps ++ [z], by rw [upd_same, List.map_append]; rfl, ?_, ?_, fun y hy => ?_⟩
        · rw [List.length_map, l1]
          exact Nat.le_trans (List.length_filter_le ..) (by rw [List.length_take]; omega)
        · rw [upd_ne (ne_of_none e hD)]
          exact g2 _ _ (g1 _ _ e ne) ne
        · rw [filterK_more hkd, if_pos ho, List.length_append, List.length_append, l1]
          rfl
        · rw [filterK_more hkd, if_pos ho]
          exact badPl_snoc l1.symm b1 (List.mem_of_getElem? hz)
        · rcases List.mem_append.mp hy with hy | hy
          · exact z1 y hy
          · rw [List.mem_singleton.mp hy]
            exact (kk.sn _ z hz).1
      · refine ⟨g1, P1, ps, e1, ?_, ?_, z1⟩
        · rw [filterK_more hkd, if_neg ho, List.append_nil, l1]
        · rw [filterK_more hkd, if_neg ho, List.append_nil, b1]
    · rintro H' ⟨g1, P1, ps, e1, l1, b1, z1⟩
      have e : ks.take (refsK as).length = ks := by
        unfold refsK
        rw [List.length_map, hks.len, List.take_length]
      rw [e] at l1 b1
      refine ⟨D, _, rfl, .inl ⟨SqL.of e1, fun q hq => ?_⟩⟩
      have nq := (P1.ne hq).1
      exact k q ps _ (g1.trans (.new hq)) (P1.new hq) (g1.free hq nq) nq upd_same ⟨by unfold singlesN; rw [List.length_map]; exact l1, b1⟩ z1
end
end Yd
namespace Yd
open PySem L2
/-! ### the law's own reckoning of what is present -/
/-- a list of pairs -/
def ListP (K : PySem.W.Frag) (H : Hp) (l : Addr) (ps : List Pr) : Prop := ∃ xs, SqL K H l xs ∧ PairsAt H xs ps
theorem ListP.keep {K : PySem.W.Frag} {H H' : Hp} {l : Addr} {ps : List Pr} (h : ListP K H l ps) (s : Same H H') : ListP K H' l ps := let ⟨xs, a, b⟩ := h; ⟨xs, s.seq a, b.same s⟩
theorem ListP.rows {K : PySem.W.Frag} {H : Hp} {l : Addr} {ps : List Pr} (h : ListP K H l ps) : RowsP K H l ps := let ⟨xs, a, b⟩ := h; ⟨xs, b, .inl a⟩
theorem plain_prs (ps : List Pr) : (PyData.list (ps.map PySem.W.Datum.toD)).plain = true := by simp only [PyData.plain]; exact PySem.W.plainAll_map (α := Pr) ps
theorem depth_prs (ps : List Pr) : (PyData.list (ps.map PySem.W.Datum.toD)).depth ≤ 60 := by
  have h : PyData.depthAll (ps.map PySem.W.Datum.toD) ≤ _ := PySem.W.depthAll_map (α := Pr) ps
  have h2 : PySem.W.Datum.depth Pr ≤ 5 := by decide
  simp only [PyData.depth]
  omega
theorem ListP.dp {K : PySem.W.Frag} {H : Hp} {l : Addr} {ps : List Pr} (h : ListP K H l ps) : Dp K H (.ref l) (.list (ps.map PySem.W.Datum.toD)) := let ⟨_, a, b⟩ := h; .lst a b.dp
abbrev Row := Pr × (List Str × List Str)
def RowT (F : Addr → Prop) (H : Hp) (t : Addr) (r : Row) : Prop := ∃ n g, F n ∧ F g ∧ H t = some (.tup [.str r.1.1, .str r.1.2, .ref n, .ref g]) ∧ H n = some (.lst (r.2.1.map V.str)) ∧ H g = some (.lst (r.2.2.map V.str))
theorem RowT.keep {F : Addr → Prop} {H H' : Hp} {t : Addr} {r : Row} (h : RowT F H t r) (s : Same H H') : RowT F H' t r := let ⟨n, g, f1, f2, a, b, c⟩ := h; ⟨n, g, f1, f2, s _ _ a, s _ _ b, s _ _ c⟩
def PresAt (F : Addr → Prop) (H : Hp) : List Addr → List Row → Prop
  | [], [] => True
  | t :: ts, r :: rs => RowT F H t r ∧ PresAt F H ts rs
  | _, _ => False
theorem PresAt.keep {F : Addr → Prop} {H H' : Hp} (s : Same H H') : ∀ {ts : List Addr} {rs : List Row}, PresAt F H ts rs → PresAt F H' ts rs
  | [], [], _ => True.intro
  | _ :: _, _ :: _, ⟨h, r⟩ => ⟨h.keep s, PresAt.keep s r⟩
  | [], _ :: _, h => h.elim
  | _ :: _, [], h => h.elim
theorem PresAt.len {F : Addr → Prop} {H : Hp} : ∀ {ts : List Addr} {rs : List Row}, PresAt F H ts rs → ts.length = rs.length
  | [], [], _ => rfl
  | _ :: _, _ :: _, ⟨_, r⟩ => by rw [List.length_cons, List.length_cons, PresAt.len r]
  | [], _ :: _, h => h.elim
  | _ :: _, [], h => h.elim
theorem PresAt.snoc {F : Addr → Prop} {H : Hp} {t : Addr} {r : Row} (e : RowT F H t r) : ∀ {ts : List Addr} {rs : List Row}, PresAt F H ts rs → PresAt F H (ts ++ [t]) (rs ++ [r])
  | [], [], _ => ⟨e, True.intro⟩
  | _ :: _, _ :: _, ⟨h, q⟩ => ⟨h, PresAt.snoc e q⟩
  | [], _ :: _, h => h.elim
  | _ :: _, [], h => h.elim
theorem PresAt.get {F : Addr → Prop} {H : Hp} : ∀ {ts : List Addr} {rs : List Row} {i : Nat} {t : Addr}, PresAt F H ts rs → ts[i]? = some t → ∃ r, rs[i]? = some r ∧ RowT F H t r
  | [], [], _, _, _, h => by simp at h
  | _ :: _, r :: _, 0, t, ⟨h, _⟩, e => ⟨r, rfl, by rw [← Option.some.inj e]; exact h⟩
  | _ :: _, _ :: _, i + 1, t, ⟨_, q⟩, e => PresAt.get (i := i) q (by simpa using e)
  | [], _ :: _, _, _, h, _ => h.elim
  | _ :: _, [], _, _, h, _ => h.elim
def presRow (k : KD) (here : List Str) (hs : List Pr) : List Row := ((k.ss.zip k.ng).filter fun z => decide (z.1 ∈ here) || decide ((k.nm, z.1) ∈ hs)).map fun z => ((k.nm, z.1), z.2)
/-- the rows of what is present -/
def lawRows : List KD → List Str → List Pr → List Row
  | [], _, _ => []
  | k :: ks, ps, hs => if k.one = true then presRow k (ps.take 1) hs ++ lawRows ks (ps.drop 1) hs else presRow k [] hs ++ lawRows ks ps hs
theorem off_upd {D : Addr} {H : Hp} {o : HO} : off D (upd H D o) = off D H := by
  funext b
  by_cases n : b = D
  · rw [n, off_self, off_self]
  · rw [off_ne n, off_ne n, upd_ne n]
theorem same_off {D : Addr} {H H' : Hp} (s : Same H H') (n : H D = none) : Same H (off D H') := fun b o e => by
  rw [off_ne (ne_of_none e n)]
  exact s b o e
def spLPresent (K : PySem.W.Frag) : Sp := fun vs H Q _ => ∃ (kl pl hl : Addr) (as : List KA) (ks : List KD) (ps : List Str) (hs : List Pr), vs = [.ref kl, .ref pl, .ref hl] ∧ H kl = some (.lst (refsK as)) ∧ KdsAt H as ks ∧ (∀ k ∈ ks, KdOk k) ∧ ks.length ≤ 11 ∧
  SqT K H pl (ps.map V.str) ∧ ps.length = (singlesN ks).length ∧ ListP K H hl hs ∧ ∀ (q : Addr) (ts : List Addr) H', Same H H' → H q = none → H' q = some (.lst (ts.map V.ref)) → PresAt (fun b => ∃ a ∈ as, b ∈ a.ns ∨ b ∈ a.gs) H' ts (lawRows ks ps hs) → Q (.ref q) H'
theorem presRow_len (k : KD) (here : List Str) (hs : List Pr) : (presRow k here hs).length ≤ k.ss.length := by
  unfold presRow
  rw [List.length_map]
  refine Nat.le_trans (List.length_filter_le ..) ?_
  rw [List.length_zip]
  exact Nat.min_le_left ..
section
variable {P : Program} {w : World} {K : PySem.W.Frag} {mg : Str → Option Value} {base : Heap}
def nLPresent : List Str := ["_law_kinds_here", "_law_places_here", "_law_held", "_law_rows", "_law_at", "_law_kind_here", "_law_here", "_law_k"]
theorem scLPresent : FnScope nLPresent ["_law_kinds_here", "_law_places_here", "_law_held"] (defScope sPresent) := ⟨rfl, rfl, rfl, by decide +kernel, rfl, by decide +kernel, by decide +kernel⟩
theorem ok_lPresent {f : Addr} {fd : FuncData} (F : Fun K "_law_present" "_law_present" sPresent f fd) (B : Blt mg) : FnOk P w K mg base CX0 1 f fd ["_law_kinds_here", "_law_places_here", "_law_held"] (spLPresent K) := by
  refine F.ok scLPresent (fun vs H Q E h => ?_) (fun cdv A outer s H vs Q E hr h => ?_)
  · obtain ⟨kl, pl, hl, as, ks, ps, hs, rfl, _⟩ := h
    rfl
  · obtain ⟨kl, pl, hl, as, ks, ps, hs, rfl, hkl, hks, ok, k11, hpl, pln, hhl, k⟩ := h
    refine ⟨_, pss_cons (ps_set (i := 3) scLPresent.nd rfl (Or.inl rfl) (pe_lst pa_nil))
      (pss_cons (ps_set (i := 4) scLPresent.nd rfl (Or.inl rfl) pe_int)
      (pss_cons (ps_for PassesOwn.never rfl (pi_list (pv 0)) (pg_name (i := 5) scLPresent.nd rfl (Or.inl rfl))
        (pss_cons (ps_set (i := 6) scLPresent.nd rfl (Or.inl rfl) (pe_lst pa_nil))
        (C8.pss_cut (ps_if (pt_val (pe_ix ix_list (pv 5) pe_int (fun _ _ => rfl)))
            (pss_cons (ps_set (i := 6) scLPresent.nd rfl (Or.inl rfl) (pe_lst (pa_cons (pe_ix ix_tup (pv 1) (pv 4) (fun _ _ => rfl)) pa_nil)))
            (pss_one (ps_set (i := 4) scLPresent.nd rfl (Or.inl rfl) (pe_op op_add (pv 4) pe_int)))) pss_nil)
        (pss_one (ps_for PassesOwn.never rfl (pi_range1 rfl B.range (pa_cons (pe_callB call_len_seq (by rfl) B.len PySem.boot_len (pa_cons (pe_ix ix_list (pv 5) pe_int (fun _ _ => rfl)) pa_nil)) pa_nil)) (pg_name (i := 7) scLPresent.nd rfl (Or.inl rfl))
          (pss_one (ps_if (PW.pt (pw_or (pt_cmpR op_in_seq (pe_ix ix_list (pe_ix ix_list (pv 5) pe_int (fun _ _ => rfl)) (pv 7) (fun _ _ => rfl)) (pv 6) rfl)
              (pw_or1 (pt_cmpR (op_inY (α := Pr) (by decide) (units65 hr)) (pe_tup (pa_cons (pe_ix ix_list (pv 5) pe_int (fun _ _ => rfl)) (pa_cons (pe_ix ix_list (pe_ix ix_list (pv 5) pe_int (fun _ _ => rfl)) (pv 7) (fun _ _ => rfl)) pa_nil))) (pv 2) rfl))))
            (pss_one (ps_expr (pe_bm PySem.F.plainAttrs_list PySem.F.slot_list_append PySem.F.type_list_append mt_append (pv 3) (pa_cons (pe_tup (pa_cons (pe_ix ix_list (pv 5) pe_int (fun _ _ => rfl)) (pa_cons (pe_ix ix_list (pe_ix ix_list (pv 5) pe_int (fun _ _ => rfl)) (pv 7) (fun _ _ => rfl))
              (pa_cons (pe_ix ix_list (pe_ix ix_list (pv 5) pe_int (fun _ _ => rfl)) (pv 7) (fun _ _ => rfl)) (pa_cons (pe_ix ix_list (pe_ix ix_list (pv 5) pe_int (fun _ _ => rfl)) (pv 7) (fun _ _ => rfl)) pa_nil))))) pa_nil)))) pss_nil)))))))
      (pss_one (ps_ret (pv 3))))), ?_⟩
    refine ⟨(by show 0 ≤ sizeLine; omega), fun D hD => ?_⟩
    have lenS : (singlesN ks).length = (ks.filter (·.one)).length := by unfold singlesN; rw [List.length_map]
    refine ⟨_, rfl, kl, rfl, ⟨_, SqL.of (same_new hD _ _ hkl)⟩, for_list (K := K) (a := kl) (xs := refsK as)
      (fun i σ H' => Same H H' ∧ ∃ (ts : List Addr) (rs : List Row) (at_ : Nat) (v5 v6 v7 : Option V), H' D = some (.lst (ts.map V.ref)) ∧ PresAt (fun b => ∃ a ∈ as, b ∈ a.ns ∨ b ∈ a.gs) (off D H') ts rs ∧ lawRows ks ps hs = rs ++ lawRows (ks.drop i) (ps.drop at_) hs ∧ (ps.drop at_).length = ((ks.drop i).filter (·.one)).length ∧ rs.length ≤ i * 5 ∧
        σ = [some (.ref kl), some (.ref pl), some (.ref hl), some (.ref D), some (.int (at_ : Int)), v5, v6, v7])
      ⟨same_new hD, [], [], 0, _, _, _, upd_same, True.intro, rfl, by rw [List.drop_zero, List.drop_zero, pln, lenS], Nat.zero_le _, rfl⟩ (fun i σ H' _ z => SqL.of (z.1 _ _ hkl)) ?_ ?_⟩
    · rintro i y σ H' hi ⟨s1, ts, rs, at_, v5, v6, v7, eD, pr, er, el, rl, rfl⟩
      obtain ⟨a, ha, rfl⟩ := refsK_at hi
      obtain ⟨kd, hkd, ka⟩ := hks.at_ ha
      have k' := ka.keep s1
      have kk := ok kd (List.mem_of_getElem? hkd)
      have i11 : i < 11 := by have := (List.getElem?_eq_some_iff.mp hkd).1; omega
      have dk : ks.drop i = kd :: ks.drop (i + 1) := by
        have l1 := List.getElem?_eq_some_iff.mp hkd
        rw [List.drop_eq_getElem_cons l1.1, l1.2]
      refine ⟨(by show 0 ≤ sizeLine; omega), fun L0 hL0 => ?_⟩
      have sL := same_new (o := .lst []) hL0
      have eL0 : upd H' L0 (.lst []) L0 = some (.lst []) := upd_same
      generalize upd H' L0 (.lst []) = H1 at sL eL0 ⊢
      have k1 := k'.keep sL
      refine ⟨fun σ H2 => Same H' H2 ∧ ∃ (L : Addr) (here : List Str) (at2 : Nat), L ≠ D ∧ H2 L = some (.lst (here.map V.str)) ∧ lawRows (ks.drop i) (ps.drop at_) hs = presRow kd here hs ++ lawRows (ks.drop (i + 1)) (ps.drop at2) hs ∧ (ps.drop at2).length = ((ks.drop (i + 1)).filter (·.one)).length ∧
        σ = [some (.ref kl), some (.ref pl), some (.ref hl), some (.ref D), some (.int (at2 : Int)), some (.ref a.u), some (.ref L), v7], ?_, ?_⟩
      · refine ⟨_, rfl, a.u, _, 1, _, rfl, rfl, SqL.of k1.hu, at_c (j := 1) rfl rfl, kd.one, rfl, ite2 (fun ho => ?_) (fun ho => ?_)⟩
        · have el2 := el
          rw [dk, List.filter_cons, if_pos ho, List.length_cons, List.length_drop] at el2
          obtain ⟨z, hz⟩ : ∃ z, ps[at_]? = some z := ⟨_, List.getElem?_eq_getElem (by omega)⟩
          have l1 := List.getElem?_eq_some_iff.mp hz
          have dz : ps.drop at_ = z :: ps.drop (at_ + 1) := by rw [List.drop_eq_getElem_cons l1.1, l1.2]
          refine ⟨_, rfl, _, rfl, pl, _, _, _, rfl, rfl, same_seqT (s1.trans sL) hpl, at_s hz rfl, (by show 1 ≤ sizeLine; decide), fun L hL => ?_⟩
          refine ⟨_, rfl, _, _, rfl, rfl, sL.trans (same_new hL), L, [z], at_ + 1, (fun w => by rw [w, sL _ _ eD] at hL; cases hL), upd_same, ?_, ?_, rfl⟩
          · rw [dk, dz]
            show (if kd.one = true then _ else _) = _
            rw [if_pos ho]
            rfl
          · rw [List.length_drop]
            omega
        · refine ⟨sL, L0, [], at_, (fun w => by rw [w, eD] at hL0; cases hL0), eL0, ?_, ?_, rfl⟩
          · rw [dk]
            show (if kd.one = true then _ else _) = _
            rw [if_neg ho]
          · rw [el, dk, List.filter_cons, if_neg ho]
      · rintro σ H2 ⟨s2, L, here, at2, nLD, eL, er2, el2, rfl⟩
        have k2 := k'.keep s2
        have ln := kk.ln
        have s5 := kk.s5
        refine ⟨_, rfl, a.u, _, 2, _, rfl, rfl, SqL.of k2.hu, at_c (j := 2) rfl rfl, a.l, _, rfl, .inl (SqL.of k2.hl), _, rfl, by rw [List.length_map]; omega, by rw [List.length_map]; omega, for_range (lo := 0) (n := (((kd.ss.map V.str).length : Nat) : Int).toNat)
          (fun j σ H3 => Same (off D H2) (off D H3) ∧ ∃ (ts3 : List Addr) (v7 : Option V), H3 D = some (.lst (ts3.map V.ref)) ∧ PresAt (fun b => ∃ a ∈ as, b ∈ a.ns ∨ b ∈ a.gs) (off D H3) ts3 (rs ++ (((kd.ss.zip kd.ng).take j).filter fun z => decide (z.1 ∈ here) || decide ((kd.nm, z.1) ∈ hs)).map fun z => ((kd.nm, z.1), z.2)) ∧
            σ = [some (.ref kl), some (.ref pl), some (.ref hl), some (.ref D), some (.int (at2 : Int)), some (.ref a.u), some (.ref L), v7])
          ⟨Same.refl _, ts, _, s2 _ _ eD, by rw [List.take_zero]; simpa using pr.keep (off_same s2), rfl⟩ ?_ ?_⟩
        · rintro j σ H3 hj ⟨s3, ts3, v7, eD3, pr3, rfl⟩
          rw [List.length_map] at hj
          have jl : j < kd.ss.length := by omega
          obtain ⟨z, hz⟩ : ∃ z, kd.ss[j]? = some z := ⟨_, List.getElem?_eq_getElem jl⟩
          obtain ⟨q, hq⟩ : ∃ q, kd.ng[j]? = some q := ⟨_, List.getElem?_eq_getElem (by omega)⟩
          have hzq : (kd.ss.zip kd.ng)[j]? = some (z, q) := (List.getElem?_zip_eq_some (z := (z, q))).mpr ⟨hz, hq⟩
          have s03 : Same H (off D H3) := (same_off (s1.trans s2) hD).trans s3
          have ko := ka.keep s03
          have k3 := ko.keep off_sub
          have hh3 := (hhl.keep s03).keep off_sub
          have eL3 : (off D H3) L = some (.lst (here.map V.str)) := s3 _ _ (off_at eL nLD)
          obtain ⟨nj, hnj, enj⟩ := ko.hns.get (i := j) (xs := q.1) (by rw [List.getElem?_map, hq]; rfl)
          obtain ⟨gj, hgj, egj⟩ := ko.hgs.get (i := j) (xs := q.2) (by rw [List.getElem?_map, hq]; rfl)
          have ft : (((kd.ss.zip kd.ng).take (j + 1)).filter fun z => decide (z.1 ∈ here) || decide ((kd.nm, z.1) ∈ hs)) = (((kd.ss.zip kd.ng).take j).filter fun z => decide (z.1 ∈ here) || decide ((kd.nm, z.1) ∈ hs)) ++ (if (decide (z ∈ here) || decide ((kd.nm, z) ∈ hs)) = true then [(z, q)] else []) := by
            rw [List.take_add_one, hzq, List.filter_append]
            congr 1
            cases e : (decide (z ∈ here) || decide ((kd.nm, z) ∈ hs)) <;> simp [e]
          -- the row, if it is present
          have put : ∀ H4, Same H3 H4 → (decide (z ∈ here) || decide ((kd.nm, z) ∈ hs)) = true → ∀ t, H4 t = none → ∃ l ys x, V.ref D = .ref l ∧ [V.ref t] = [x] ∧ upd H4 t (.tup [.str kd.nm, .str z, .ref nj, .ref gj]) l = some (.lst ys) ∧ ys.length < sizeLine ∧
              (Same (off D H2) (off D (upd (upd H4 t (.tup [.str kd.nm, .str z, .ref nj, .ref gj])) l (.lst (ys ++ [x])))) ∧ ∃ (ts3 : List Addr) (v7' : Option V), upd (upd H4 t (.tup [.str kd.nm, .str z, .ref nj, .ref gj])) l (.lst (ys ++ [x])) D = some (.lst (ts3.map V.ref)) ∧
                PresAt (fun b => ∃ a ∈ as, b ∈ a.ns ∨ b ∈ a.gs) (off D (upd (upd H4 t (.tup [.str kd.nm, .str z, .ref nj, .ref gj])) l (.lst (ys ++ [x])))) ts3 (rs ++ (((kd.ss.zip kd.ng).take (j + 1)).filter fun z => decide (z.1 ∈ here) || decide ((kd.nm, z.1) ∈ hs)).map fun z => ((kd.nm, z.1), z.2)) ∧
                [some (V.ref kl), some (.ref pl), some (.ref hl), some (.ref D), some (.int (at2 : Int)), some (.ref a.u), some (.ref L), some (.int (0 + (j : Int)))] = [some (.ref kl), some (.ref pl), some (.ref hl), some (.ref D), some (.int (at2 : Int)), some (.ref a.u), some (.ref L), v7']) := by
            intro H4 s4 yes t ht
            have s5 := s4.trans (same_new (o := .tup [.str kd.nm, .str z, .ref nj, .ref gj]) ht)
            have et : upd H4 t (.tup [.str kd.nm, .str z, .ref nj, .ref gj]) t = some (.tup [.str kd.nm, .str z, .ref nj, .ref gj]) := upd_same
            have ntD : t ≠ D := fun w => by rw [w, s4 _ _ eD3] at ht; cases ht
            generalize upd H4 t (.tup [.str kd.nm, .str z, .ref nj, .ref gj]) = H5 at s5 et ⊢
            have so : Same (off D H3) (off D H5) := off_same s5
            refine ⟨D, _, _, rfl, rfl, s5 _ _ eD3, small1000 ?_, ?_, ts3 ++ [t], _, by rw [upd_same, List.map_append]; rfl, ?_, rfl⟩
            · have l3 := pr3.len
              rw [List.length_append, List.length_map] at l3
              have l4 := List.length_filter_le (fun z => decide (z.1 ∈ here) || decide ((kd.nm, z.1) ∈ hs)) ((kd.ss.zip kd.ng).take j)
              rw [List.length_take] at l4
              rw [List.length_map, l3]
              omega
            · rw [off_upd]
              exact s3.trans so
            · rw [off_upd, ft, if_pos yes, List.map_append, ← List.append_assoc]
              exact PresAt.snoc ⟨nj, gj, ⟨a, List.mem_of_getElem? ha, .inl (List.mem_of_getElem? hnj)⟩, ⟨a, List.mem_of_getElem? ha, .inr (List.mem_of_getElem? hgj)⟩, off_at et ntD, so _ _ enj, so _ _ egj⟩ (pr3.keep so)
          refine ⟨_, rfl, a.u, _, 2, _, rfl, rfl, SqL.of k3.hu, at_c (j := 2) rfl rfl, _, rfl, a.l, _, _, _, rfl, rfl, SqL.of k3.hl, at_s hz (by omega), _, rfl, L, _, rfl, .inl (SqL.of (off_sub _ _ eL3)), rfl, flat_strs _, _, rfl, ?_⟩
          show if inV (.str z) (here.map V.str) = true then _ else _
          rw [inV_strs]
          by_cases m1 : z ∈ here
          · rw [decide_eq_true m1]
            refine yes rfl (iteT ?_)
            refine ⟨_, rfl, .inl ⟨rfl, _, SqL.of eD3⟩, _, rfl, a.u, _, 0, _, rfl, rfl, SqL.of k3.hu, at_c (j := 0) rfl rfl, _, rfl, a.u, _, 2, _, rfl, rfl, SqL.of k3.hu, at_c (j := 2) rfl rfl, _, rfl, a.l, _, _, _, rfl, rfl, SqL.of k3.hl, at_s hz (by omega),
              _, rfl, a.u, _, 4, _, rfl, rfl, SqL.of k3.hu, at_c (j := 4) rfl rfl, _, rfl, a.n, _, _, _, rfl, rfl, SqL.of k3.hn, at_r hnj (by omega), _, rfl, a.u, _, 5, _, rfl, rfl, SqL.of k3.hu, at_c (j := 5) rfl rfl, _, rfl, a.g, _, _, _, rfl, rfl, SqL.of k3.hg, at_r hgj (by omega), (by show 4 ≤ sizeLine; decide), fun t ht => ?_⟩
            exact put H3 (Same.refl _) (by rw [decide_eq_true m1]; rfl) t ht
          · rw [decide_eq_false m1]
            refine no rfl ⟨_, rfl, a.u, _, 0, _, rfl, rfl, SqL.of k3.hu, at_c (j := 0) rfl rfl, _, rfl, a.u, _, 2, _, rfl, rfl, SqL.of k3.hu, at_c (j := 2) rfl rfl, _, rfl, a.l, _, _, _, rfl, rfl, SqL.of k3.hl, at_s hz (by omega), (by show 2 ≤ sizeLine; decide), fun t2 ht2 => ?_⟩
            have s4 := same_new (o := .tup [.str kd.nm, .str z]) ht2
            have e4 : upd H3 t2 (.tup [.str kd.nm, .str z]) t2 = some (.tup [.str kd.nm, .str z]) := upd_same
            generalize upd H3 t2 (.tup [.str kd.nm, .str z]) = H4 at s4 e4 ⊢
            have k4 := k3.keep s4
            refine ⟨_, rfl, (kd.nm, z), hs, .tup (SqT.of e4) (.cons (.str _) (.cons (.str _) .nil)), (hh3.keep s4).dp, _, rfl, ?_⟩
            refine ite2 (fun m2 => ?_) (fun m2 => ?_)
            · have m2 : (kd.nm, z) ∈ hs := by simpa using m2
              refine ⟨_, rfl, .inl ⟨rfl, _, SqL.of (s4 _ _ eD3)⟩, _, rfl, a.u, _, 0, _, rfl, rfl, SqL.of k4.hu, at_c (j := 0) rfl rfl, _, rfl, a.u, _, 2, _, rfl, rfl, SqL.of k4.hu, at_c (j := 2) rfl rfl, _, rfl, a.l, _, _, _, rfl, rfl, SqL.of k4.hl, at_s hz (by omega),
                _, rfl, a.u, _, 4, _, rfl, rfl, SqL.of k4.hu, at_c (j := 4) rfl rfl, _, rfl, a.n, _, _, _, rfl, rfl, SqL.of k4.hn, at_r hnj (by omega), _, rfl, a.u, _, 5, _, rfl, rfl, SqL.of k4.hu, at_c (j := 5) rfl rfl, _, rfl, a.g, _, _, _, rfl, rfl, SqL.of k4.hg, at_r hgj (by omega), (by show 4 ≤ sizeLine; decide), fun t ht => ?_⟩
              exact put H4 s4 (by rw [decide_eq_false m1, decide_eq_true m2]; rfl) t ht
            · have m2 : ¬ (kd.nm, z) ∈ hs := by simpa using m2
              refine ⟨s3.trans (off_same s4), ts3, _, s4 _ _ eD3, ?_, rfl⟩
              rw [ft, if_neg (by rw [decide_eq_false m1, decide_eq_false m2]; exact Bool.false_ne_true), List.append_nil]
              exact pr3.keep (off_same s4)
        · rintro σ H3 ⟨s3, ts3, v7, eD3, pr3, rfl⟩
          rw [List.length_map] at pr3
          have et : (kd.ss.zip kd.ng).take ((kd.ss.length : Int)).toNat = kd.ss.zip kd.ng := List.take_of_length_le (by rw [List.length_zip]; omega)
          rw [et] at pr3
          have sH : Same H H3 := ((same_off (s1.trans s2) hD).trans s3).trans off_sub
          refine ⟨sH, ts3, _, at2, _, _, _, eD3, pr3, ?_, el2, ?_, rfl⟩
          · rw [er, er2, ← List.append_assoc]
            rfl
          · rw [List.length_append]
            have := presRow_len kd here hs
            unfold presRow at this
            omega
    · rintro σ H' ⟨s1, ts, rs, at_, v5, v6, v7, eD, pr, er, el, rl, rfl⟩
      have e : ks.drop (refsK as).length = [] := List.drop_eq_nil_of_le (by unfold refsK; rw [List.length_map, hks.len]; exact Nat.le_refl _)
      rw [e] at er
      have er : lawRows ks ps hs = rs := by rw [er]; exact List.append_nil _
      rw [er] at k
      exact ⟨_, rfl, k D ts H' s1 hD eD (pr.keep off_sub)⟩
end
end Yd
namespace Yd
open PySem L2
/-! ### turned rows; tuples compared; a list of kinds refused -/
theorem cut_drop {α : Type} (xs : List α) (n : Nat) : (xs.drop (HT.sIx xs.length 0 (some (n : Int)))).take (HT.sIx xs.length xs.length none - HT.sIx xs.length 0 (some (n : Int))) = xs.drop n := by
  rw [HT.sIx_none, HT.sIx_nat]
  rcases Nat.le_total n xs.length with h | h
  · rw [Nat.min_eq_left h, List.take_of_length_le (by rw [List.length_drop]; exact Nat.le_refl _)]
  · rw [Nat.min_eq_right h, List.drop_eq_nil_of_le (Nat.le_refl _), List.drop_eq_nil_of_le h, List.take_nil]
theorem cutV_drop (xs : List V) (n : Nat) : cutV xs (some (n : Int)) none = xs.drop n := cut_drop xs n
theorem cutV_take (xs : List V) (n : Nat) : cutV xs none (some (n : Int)) = xs.take n := by
  unfold cutV
  rw [HT.sIx_none, HT.sIx_nat, List.drop_zero, Nat.sub_zero]
  rcases Nat.le_total n xs.length with h | h
  · rw [Nat.min_eq_left h]
  · rw [Nat.min_eq_right h, List.take_of_length_le (Nat.le_refl _), List.take_of_length_le h]
theorem PairsAt.drop {H : Hp} : ∀ {xs : List V} {ps : List Pr} {n : Nat}, PairsAt H xs ps → PairsAt H (xs.drop n) (ps.drop n)
  | _, _, 0, h => h
  | [], [], n + 1, _ => True.intro
  | _ :: _, _ :: _, n + 1, ⟨_, r⟩ => PairsAt.drop (n := n) r
  | [], _ :: _, _ + 1, h => h.elim
  | _ :: _, [], _ + 1, h => h.elim
theorem PairsAt.take {H : Hp} : ∀ {xs : List V} {ps : List Pr} {n : Nat}, PairsAt H xs ps → PairsAt H (xs.take n) (ps.take n)
  | _, _, 0, _ => by rw [List.take_zero, List.take_zero]; exact True.intro
  | [], [], n + 1, _ => True.intro
  | _ :: _, _ :: _, n + 1, ⟨h, r⟩ => ⟨h, PairsAt.take (n := n) r⟩
  | [], _ :: _, _ + 1, h => h.elim
  | _ :: _, [], _ + 1, h => h.elim
theorem at_back {xs : List V} {i : Nat} {v : V} (h : xs[xs.length - 1 - i]? = some v) (hi : i < xs.length) {z : Int} (e : z = -1 - (i : Int)) : atI xs z = some v := by
  subst e
  have q : ixN xs.length (-1 - (i : Int)) = some (xs.length - 1 - i) := by
    unfold ixN
    rw [if_neg (by omega), if_pos (by omega)]
    congr 1
    omega
  unfold atI
  rw [q]
  exact h
def spTurned : Sp := fun vs H Q _ => ∃ (p c l : Addr) (ys : List V) (ps : List Pr), vs = [.ref p, .ref l] ∧ Pool H p c ∧ H l = some (.lst ys) ∧ l ≠ p ∧ PairsAt H ys ps ∧ ps.length ≤ 200 ∧
  ∀ q zs ps' H', Gro p H H' → Pool H' p c → H q = none → q ≠ p → H' q = some (.lst zs) → PairsAt H' zs ps' → ps'.Perm ps → Q (.ref q) H'
def spIsTuple (K : PySem.W.Frag) : Sp := fun vs H Q _ => ∃ (a : Addr) (y : V) (xs : List V) (d : PyData), vs = [.ref a, y] ∧ H a = some (.tup xs) ∧ Dp K H (.ref a) d ∧ Dp K H y d ∧ d.plain = true ∧ d.depth ≤ 60 ∧ Q (.bl true) H
def spRep (K : PySem.W.Frag) (n : Kn) : Sp := fun vs H Q _ => ∃ (l : Addr) (xs : List PX) (ks : List KD), vs = [.ref l] ∧ SqL K H l (refsP xs) ∧ EachAt H n xs ks ∧ (∀ k ∈ ks, KdFit k) ∧ ks.length ≤ 60 ∧ ((ks.map (·.nm)).Nodup → ∀ H', Same H H' → Q .non H') ∧
  (∀ (i : Nat) (k : KD), ks[i]? = some k → k.nm ∈ (ks.take i).map (·.nm) → ((ks.take i).map (·.nm)).Nodup → ∀ q H', Same H H' → H' q = some (.tup [.str "repeated", .str k.nm]) → Q (.ref q) H')
section
variable {P : Program} {w : World} {K : PySem.W.Frag} {mg : Str → Option Value} {base : Heap}
theorem scIsTuple : FnScope ["_law_actual", "_law_expected"] ["_law_actual", "_law_expected"] (defScope sIsTuple) := ⟨rfl, rfl, rfl, by decide +kernel, rfl, by decide +kernel, by decide +kernel⟩
theorem ok_isTuple {f : Addr} {fd : FuncData} (F : Fun K "_law_is_tuple" "_law_is_tuple" sIsTuple f fd) (hI : mg "isinstance" = none) (hT : mg "tuple" = none) : FnOk P w K mg base CX0 1 f fd ["_law_actual", "_law_expected"] (spIsTuple K) := by
  refine F.ok scIsTuple (fun vs H Q E h => ?_) (fun cdv A outer s H vs Q E hr h => ?_)
  · obtain ⟨a, y, xs, d, rfl, _⟩ := h
    rfl
  · obtain ⟨a, y, xs, d, rfl, ha, d1, d2, pl, dd, k⟩ := h
    refine ⟨_, pss_one (ps_ret (pe_and (pe_callB call_isi (by rfl) hI (by decide +kernel) (pa_cons (pv 0) (pa_cons (pe_bltn (v := .ty "tuple") (by rfl) hT (by decide +kernel) rfl) pa_nil)))
      (pe_one (pe_cmpR (op_eqS hr.units) (pv 0) (pv 1) (nomark _))))), ?_⟩
    exact ⟨_, rfl, _, _, _, _, true, rfl, .ty _, .base (.tup ha), kit_ty (by decide +kernel), _, rfl, yes rfl ⟨_, rfl, _, rfl, d, d1, d2, pl, dd, k⟩⟩
end
end Yd
namespace Yd
open PySem L2
/-! ### both reckonings of what is present agree -/
theorem presRow_fst {k : KD} {here : List Str} {hs : List Pr} (ln : k.ng.length = k.ss.length) : (presRow k here hs).map (·.1) = (kSpots k).filter fun p => decide (p.2 ∈ here) || decide (p ∈ hs) := by
  unfold presRow kSpots
  rw [List.map_map]
  suffices q : ∀ (ss : List Str) (ng : List (List Str × List Str)), ng.length = ss.length →
      ((ss.zip ng).filter fun z => decide (z.1 ∈ here) || decide ((k.nm, z.1) ∈ hs)).map ((fun r : Row => r.1) ∘ fun z => ((k.nm, z.1), z.2)) = (ss.map fun s => (k.nm, s)).filter fun p => decide (p.2 ∈ here) || decide (p ∈ hs) from q _ _ ln
  intro ss
  induction ss with
  | nil => intro ng _; cases ng <;> rfl
  | cons s ss ih =>
    intro ng l
    cases ng with
    | nil => cases l
    | cons q ng =>
      have l : ng.length = ss.length := by simpa using l
      rw [List.zip_cons_cons, List.filter_cons, List.map_cons, List.filter_cons]
      have e := ih ng l
      by_cases m : (decide (s ∈ here) || decide ((k.nm, s) ∈ hs)) = true
      · rw [if_pos m, if_pos m, List.map_cons, e]
        rfl
      · rw [if_neg m, if_neg m, e]
theorem zip_names {as bs : List Str} {z y : Str} (h : (z, y) ∈ as.zip bs) : z ∈ as := (List.of_mem_zip h).1
theorem singlesN_cons (k : KD) (ks : List KD) : singlesN (k :: ks) = if k.one = true then k.nm :: singlesN ks else singlesN ks := by
  unfold singlesN
  rw [List.filter_cons]
  split <;> rfl
theorem singlesN_sub {ks : List KD} {z : Str} (h : z ∈ singlesN ks) : z ∈ ks.map (·.nm) := by
  unfold singlesN at h
  obtain ⟨k, hk, rfl⟩ := List.mem_map.mp h
  exact List.mem_map.mpr ⟨k, (List.mem_filter.mp hk).1, rfl⟩
theorem rows_filter {hs : List Pr} : ∀ {ks : List KD} {ps : List Str}, (ks.map (·.nm)).Nodup → ps.length = (singlesN ks).length → (∀ k ∈ ks, k.ng.length = k.ss.length) → (∀ k ∈ ks, k.one = true → ∀ q ∈ hs, q.1 ≠ k.nm) →
    (lawRows ks ps hs).map (·.1) = (allS ks).filter fun p => decide (p ∈ (singlesN ks).zip ps) || decide (p ∈ hs)
  | [], _, _, _, _, _ => rfl
  | k :: ks, ps, nd, l, ln, no => by
    rw [List.map_cons, List.nodup_cons] at nd
    have lk := ln k (List.mem_cons_self ..)
    have all : allS (k :: ks) = kSpots k ++ allS ks := rfl
    have off_ : ∀ p ∈ allS ks, p.1 ≠ k.nm := fun p hp e => by
      obtain ⟨q, hq, e1, _⟩ := allS_get hp
      exact nd.1 (List.mem_map.mpr ⟨q, hq, e1.symm.trans e⟩)
    have nz : ∀ {bs : List Str} {y : Str}, (k.nm, y) ∉ (singlesN ks).zip bs := fun {bs y} m => nd.1 (singlesN_sub (zip_names m))
    rw [all, List.filter_append, singlesN_cons]
    rw [singlesN_cons] at l
    by_cases ho : k.one = true
    · rw [if_pos ho] at l ⊢
      cases ps with
      | nil => cases l
      | cons p ps =>
        have ih := rows_filter (hs := hs) (ks := ks) (ps := ps) nd.2 (by simpa using l) (fun q hq => ln q (List.mem_cons_of_mem _ hq)) fun q hq => no q (List.mem_cons_of_mem _ hq)
        show ((if k.one = true then presRow k [p] hs ++ lawRows ks ps hs else _) : List Row).map _ = _
        rw [if_pos ho, List.map_append, ih, presRow_fst lk]
        congr 1
        · refine List.filter_congr fun q hq => ?_
          obtain ⟨s, _, rfl⟩ := List.mem_map.mp hq
          congr 1
          refine decide_eq_decide.mpr ?_
          rw [List.zip_cons_cons]
          exact ⟨fun e => List.mem_cons.mpr (.inl (by rw [show s = p from List.mem_singleton.mp e])), fun e => (List.mem_cons.mp e).elim (fun e => List.mem_singleton.mpr (Prod.mk.inj e).2) fun m => absurd m nz⟩
        · refine List.filter_congr fun q hq => ?_
          congr 1
          refine decide_eq_decide.mpr ?_
          rw [List.zip_cons_cons, List.mem_cons]
          exact ⟨.inr, fun e => e.elim (fun e => absurd (by rw [e]) (off_ q hq)) id⟩
    · rw [if_neg ho] at l ⊢
      have ih := rows_filter (hs := hs) (ks := ks) (ps := ps) nd.2 l (fun q hq => ln q (List.mem_cons_of_mem _ hq)) fun q hq => no q (List.mem_cons_of_mem _ hq)
      show ((if k.one = true then _ else presRow k [] hs ++ lawRows ks ps hs) : List Row).map _ = _
      rw [if_neg ho, List.map_append, ih, presRow_fst lk]
      congr 1
      refine List.filter_congr fun q hq => ?_
      obtain ⟨s, _, rfl⟩ := List.mem_map.mp hq
      congr 1
      exact decide_eq_decide.mpr ⟨fun m => (nomatch m), fun m => absurd m nz⟩
theorem spots_get {ks : List KD} {p : Pr} (h : p ∈ spotsL ks) : ∃ k ∈ ks, k.one = false ∧ p.1 = k.nm ∧ p.2 ∈ k.ss := by
  obtain ⟨k, hk, e1, e2⟩ := allS_get (ks := ks.filter fun k => !k.one) h
  obtain ⟨hk, e⟩ := List.mem_filter.mp hk
  exact ⟨k, hk, by simpa using e, e1, e2⟩
theorem rows_present {ks : List KD} {ps : List Str} {hs : List Pr} (nd : (ks.map (·.nm)).Nodup) (l : ps.length = (singlesN ks).length) (ln : ∀ k ∈ ks, k.ng.length = k.ss.length) (hh : ∀ q ∈ hs, q ∈ spotsL ks) :
    (lawRows ks ps hs).map (·.1) = presentL ks ps hs := by
  rw [rows_filter nd l ln fun k hk ho q hq e => ?_]
  · unfold presentL
    refine List.filter_congr fun p _ => ?_
    rw [← Bool.decide_or]
    exact decide_eq_decide.mpr List.mem_append.symm
  · obtain ⟨k', hk', e1, e2, _⟩ := spots_get (hh q hq)
    rw [name_at nd hk' hk (e2.symm.trans e), ho] at e1
    cases e1
theorem badHo_none {ks : List KD} (nd : (ks.map (·.nm)).Nodup) : ∀ {hs : List Pr}, (∀ q ∈ hs, q ∈ spotsL ks) → badHo ks hs = none
  | [], _ => rfl
  | p :: hs, h => by
    obtain ⟨k, hk, e1, e2, e3⟩ := spots_get (h p (List.mem_cons_self ..))
    have : badSp ks p = none := by
      unfold badSp
      rw [find_many nd hk e1 e2.symm]
      exact if_pos e3
    show (match badSp ks p with | some z => some z | none => badHo ks hs) = none
    rw [this]
    exact badHo_none nd fun q hq => h q (List.mem_cons_of_mem _ hq)
theorem badN_none {ks : List KD} {ps : List Str} {hs : List Pr} (nd : (ks.map (·.nm)).Nodup) (pl : PlOk ks ps) (h : ∀ q ∈ hs, q ∈ spotsL ks) : badN ks ps hs = none := by
  unfold badN
  rw [pl.2, badHo_none nd h]
theorem KdOk.fit {k : KD} {j : Nat} (h : KdOk k) (n : NameK j k.nm) : KdFit k := ⟨h.s0, by have := h.s5; omega, h.sl, h.good, Nat.le_trans n.1 (by omega)⟩
theorem KdsOk.fit {ks : List KD} (h : KdsOk ks) : ∀ k ∈ ks, KdFit k := fun k hk => by
  obtain ⟨i, hi⟩ := List.mem_iff_getElem?.mp hk
  exact (h.ok k hk).fit (h.nm i k hi)
theorem KdsOk.slen {ks : List KD} (h : KdsOk ks) {q : Pr} (m : q ∈ allS ks) : q.1.length ≤ 100 ∧ q.2.length ≤ 100 := by
  obtain ⟨k, hk, e1, e2⟩ := allS_get m
  exact ⟨by rw [e1]; exact (h.fit k hk).nl, (h.ok k hk).sl _ e2⟩
theorem spots_sub {ks : List KD} {q : Pr} (m : q ∈ spotsL ks) : q ∈ allS ks := by
  unfold spotsL at m
  unfold allS
  obtain ⟨k, hk, h⟩ := List.mem_flatMap.mp m
  exact List.mem_flatMap.mpr ⟨k, (List.mem_filter.mp hk).1, h⟩
section
variable {X : Cx}
theorem vals_refs'' : ∀ {rs : List Addr} {us : List Value}, Vals (rs.map V.ref) us → us = rs.map Value.ref
  | [], _, .nil => rfl
  | r :: rs, u :: us, .cons h t => by
    have h : u = Value.ref r := h
    rw [h, vals_refs'' t]
    rfl
/-- the very same things are in both -/
def rNeL (K : PySem.W.Frag) : R2 := fun x y H Q => ∃ (a b : Addr) (rs : List Addr), x = .ref a ∧ y = .ref b ∧ SqL K H a (rs.map V.ref) ∧ SqL K H b (rs.map V.ref) ∧ Q (.bl false) H
theorem op_neL (hu : X.A.units < cLine) : OpR X (compareOp .NotEq) (rNeL X.K) := by
  intro pins s σ H x y v u Q I rx ry h
  obtain ⟨a, b, rs, rfl, rfl, ha, hb, q⟩ := h
  obtain rfl : v = Value.ref a := rx
  obtain rfl : u = Value.ref b := ry
  obtain ⟨us, r1, l1, _⟩ := I.list ha
  obtain ⟨ws, r2, l2, _⟩ := I.list hb
  have e1 := vals_refs'' r1
  have e2 := vals_refs'' r2
  subst e1 e2
  refine SeqAt.RcNeAt.lists (e := fun _ => true) l1.isList l2.isList rfl hu (fun j _ _ => SeqAt.EqAt.same _) X.prog X.w _ _ ?_
  have z : ((List.range (rs.map Value.ref).toArray.size).all fun _ => true) = true := by simp
  rw [z]
  exact ⟨.bl false, H, I, rfl, q⟩
end
end Yd
namespace Yd
open PySem L2
/-! ### a script's kinds, their parts, the site -/
structure Wld (H : Hp) (n : Kn) (CS p c kl pa x : Addr) (d : SD) (as : List KA) (ks : List KD) (xs ys : List PX) : Prop where
  P : Pool H p c
  nkp : kl ≠ p
  nap : pa ≠ p
  hkl : H kl = some (.lst (refsK as))
  hks : KdsAt (off p H) as ks
  hpa : H pa = some (.lst (refsP xs))
  hxs : PartsAt H n xs ks
  st : SiteAt H n CS x d ys ks
section
variable {H H' : Hp} {n : Kn} {CS p c kl pa x : Addr} {d : SD} {as : List KA} {ks : List KD} {xs ys : List PX}
theorem Wld.gro (h : Wld H n CS p c kl pa x d as ks xs ys) (g : Gro p H H') (P' : Pool H' p c) : Wld H' n CS p c kl pa x d as ks xs ys :=
  ⟨P', h.nkp, h.nap, g _ _ h.hkl h.nkp, h.hks.keep (off_gro g), g _ _ h.hpa h.nap, h.hxs.keepL (h.P.noL g), h.st.keepL (h.P.noL g)⟩
theorem Wld.same (h : Wld H n CS p c kl pa x d as ks xs ys) (s : Same H H') : Wld H' n CS p c kl pa x d as ks xs ys := h.gro (.of_same s) (h.P.keep (fun _ e => s _ _ e) fun _ e => s _ _ e)
end
theorem names_no {ks : List KD} (nd : (ks.map (·.nm)).Nodup) {i : Nat} {k : KD} (hk : ks[i]? = some k) : k.nm ∉ (ks.take i).map (·.nm) := fun m => by
  obtain ⟨q, hq, e⟩ := List.mem_map.mp m
  obtain ⟨j, hj⟩ := List.mem_iff_getElem?.mp hq
  have hji : j < i := by
    have := (List.getElem?_eq_some_iff.mp hj).1
    rw [List.length_take] at this
    omega
  rw [List.getElem?_take_of_lt hji] at hj
  have h1 : (ks.map (·.nm))[i]? = some k.nm := by rw [List.getElem?_map, hk]; rfl
  have h2 : (ks.map (·.nm))[j]? = some k.nm := by rw [List.getElem?_map, hj, ← e]; rfl
  exact absurd (nd_ix nd h1 h2) (by omega)
theorem refsP_map (xs : List PX) : refsP xs = (xs.map (·.a)).map V.ref := by unfold refsP; rw [List.map_map]; rfl
theorem refsP_len (xs : List PX) : (refsP xs).length = xs.length := List.length_map _
theorem refsK_len (as : List KA) : (refsK as).length = as.length := List.length_map _
/-- a site that is made of a script's parts -/
theorem site_new {K : PySem.W.Frag} {n : Kn} {CS l : Addr} {H : Hp} {xs : List PX} {ks : List KD} {Q : Addr → Hp → Prop} (sc : SCls K CS) (hl : SqL K H l (refsP xs)) (hxs : EachAt H n xs ks) (fit : ∀ k ∈ ks, KdFit k) (k60 : ks.length ≤ 60) (nd : (ks.map (·.nm)).Nodup)
    (k : ∀ (x : Addr) (d : SD) (ys : List PX) (H' : Hp), Same H H' → H x = none → (∀ b ∈ d.fp, H b = none) → (∀ y ∈ ys, ∀ b ∈ y.fp, H b = none) → SiteAt H' n CS x d ys ks → Q x H') :
    ∀ x dx, H x = none → H dx = none → dx ≠ x → spSInit K n (.ref x :: ([.ref l] ++ [])) (upd (upd H dx (.own x)) x (.ins CS dx [])) (fun v H2 => v = .non ∧ Q x H2) (fun _ _ _ => False) := fun x dx nx ndx ne => by
  have s2 : Same H (upd (upd H dx (.own x)) x (.ins CS dx [])) := fun b o e => by rw [upd_ne (ne_of_none e nx), upd_ne (ne_of_none e ndx)]; exact e
  have i2 : upd (upd H dx (.own x)) x (.ins CS dx []) x = some (.ins CS dx []) := upd_same
  generalize upd (upd H dx (.own x)) x (.ins CS dx []) = H2 at s2 i2
  refine ⟨x, CS, dx, l, xs, ks, rfl, i2, sc, s2.seq hl, hxs.keep s2, fit, k60, fun i kd h1 h2 _ => absurd h2 (names_no nd h1), fun nd' d ys H3 hd g st fr => ⟨rfl, ?_⟩⟩
  exact k x d ys H3 (fun b o e => g b o (s2 b o e) (ne_of_none e nx)) nx (fun b hb => s2.free (hd b hb)) (fun y hy b hb => s2.free (fr y hy b hb)) st

/-! ### a list of kinds with a name that stands twice -/
theorem refsP_take (xs : List PX) (a : Nat) : refsP (xs.take a) = (refsP xs).take a := by unfold refsP; rw [List.map_take]
theorem refsP_drop (xs : List PX) (a : Nat) : refsP (xs.drop a) = (refsP xs).drop a := by unfold refsP; rw [List.map_drop]
theorem refsP_app (xs ys : List PX) : refsP (xs ++ ys) = refsP xs ++ refsP ys := by unfold refsP; rw [List.map_append]
section
variable {H : Hp} {n : Kn}
theorem EachAt.app {xs ys : List PX} {ks ls : List KD} (h : EachAt H n xs ks) (g : EachAt H n ys ls) : EachAt H n (xs ++ ys) (ks ++ ls) := ⟨by rw [List.length_append, List.length_append, h.1, g.1], fun i x k hx hk => by
  by_cases c : i < xs.length
  · rw [List.getElem?_append_left c] at hx
    rw [List.getElem?_append_left (by rw [← h.1]; exact c)] at hk
    exact h.2 i x k hx hk
  · rw [List.getElem?_append_right (by omega)] at hx
    rw [List.getElem?_append_right (by have := h.1; omega), ← h.1] at hk
    exact g.2 _ x k hx hk⟩
theorem EachAt.take {xs : List PX} {ks : List KD} (h : EachAt H n xs ks) (a : Nat) : EachAt H n (xs.take a) (ks.take a) := ⟨by rw [List.length_take, List.length_take, h.1], fun i x k hx hk => by
  rw [List.getElem?_take] at hx hk
  split at hx
  · next c =>
    rw [if_pos c] at hk
    exact h.2 i x k hx hk
  · cases hx⟩
theorem EachAt.drop {xs : List PX} {ks : List KD} (h : EachAt H n xs ks) (a : Nat) : EachAt H n (xs.drop a) (ks.drop a) := ⟨by rw [List.length_drop, List.length_drop, h.1], fun i x k hx hk => by
  rw [List.getElem?_drop] at hx hk
  exact h.2 _ x k hx hk⟩
theorem EachAt.one {x : PX} {k : KD} (h : PartAt H n x k) : EachAt H n [x] [k] := ⟨rfl, fun i y l hy hl => by
  match i, hy, hl with
  | 0, hy, hl =>
    cases hy
    cases hl
    exact h
  | _ + 1, hy, _ => cases hy⟩
end
theorem rep_here {ks : List KD} (nd : (ks.map (·.nm)).Nodup) {v a : Nat} {kt k1 k2 : KD} (hkt : ks[v]? = some kt) (va : v < a) (al : a ≤ ks.length) (e1 : k1.nm = kt.nm) :
    ¬ ((ks.take a ++ [k1] ++ ks.drop a ++ [k2]).map (·.nm)).Nodup ∧ ∀ (i : Nat) (k : KD), (ks.take a ++ [k1] ++ ks.drop a ++ [k2])[i]? = some k → k.nm ∈ ((ks.take a ++ [k1] ++ ks.drop a ++ [k2]).take i).map (·.nm) → (((ks.take a ++ [k1] ++ ks.drop a ++ [k2]).take i).map (·.nm)).Nodup → k.nm = kt.nm := by
  have lt : (ks.take a).length = a := by rw [List.length_take]; omega
  have hlow : ∀ i, i < a → (ks.take a ++ [k1] ++ ks.drop a ++ [k2])[i]? = ks[i]? := fun i hi => by
    rw [List.append_assoc, List.append_assoc, List.getElem?_append_left (by omega), List.getElem?_take_of_lt hi]
  have ha : (ks.take a ++ [k1] ++ ks.drop a ++ [k2])[a]? = some k1 := by
    rw [List.append_assoc, List.append_assoc, List.getElem?_append_right (by omega), lt, Nat.sub_self]
    rfl
  have hv := hlow v va
  rw [hkt] at hv
  generalize hW : ks.take a ++ [k1] ++ ks.drop a ++ [k2] = W at hlow ha hv ⊢
  refine ⟨fun h => ?_, fun i k hk hm hn => ?_⟩
  · have := nd_ix h (i := v) (j := a) (x := kt.nm) (by rw [List.getElem?_map, hv]; rfl) (by rw [List.getElem?_map, ha, ← e1]; rfl)
    omega
  · rcases Nat.lt_trichotomy i a with c | c | c
    · exfalso
      rw [hlow i c] at hk
      refine names_no nd hk ?_
      have : W.take i = ks.take i := by
        refine List.ext_getElem? fun j => ?_
        by_cases cj : j < i
        · rw [List.getElem?_take_of_lt cj, List.getElem?_take_of_lt cj, hlow j (by omega)]
        · rw [List.getElem?_eq_none (by rw [List.length_take]; omega), List.getElem?_eq_none (by rw [List.length_take]; omega)]
      rw [this] at hm
      exact hm
    · subst c
      rw [ha] at hk
      rw [← Option.some.inj hk]
      exact e1
    · exfalso
      have := nd_ix hn (i := v) (j := a) (x := kt.nm) (by rw [List.getElem?_map, List.getElem?_take_of_lt (by omega), hv]; rfl) (by rw [List.getElem?_map, List.getElem?_take_of_lt c, ha, ← e1]; rfl)
      omega
theorem bare_fit {nm s : Str} {one : Bool} (h1 : nm.length ≤ 100) (h2 : s.length ≤ 100) : KdFit ⟨nm, one, [s], [], [([], [])]⟩ :=
  ⟨Nat.one_pos, (by show 1 ≤ 10; decide), fun x hx => by rw [List.mem_singleton.mp hx]; exact h2, ⟨fun s t e => by simp [KD.R] at e, fun p hp => by rw [List.mem_singleton.mp hp]; exact ⟨List.nodup_nil, List.nodup_nil, Nat.zero_le _, Nat.zero_le _⟩⟩, h1⟩
theorem bare_R {nm s : Str} {one : Bool} : KD.R ⟨nm, one, [s], [], [([], [])]⟩ = fun _ _ => false := by
  funext a b
  simp [KD.R]
end Yd
namespace Yd
open PySem L2
/-! ### == and index of data with a Lean type -/
section
variable {X : Cx}
/-- both read as data with a Lean type -/
def rEqY (K : PySem.W.Frag) (α : Type) [DecidableEq α] [PySem.W.Datum α] : R2 := fun x y H Q => ∃ (a b : α), Dp K H x (PySem.W.Datum.toD a) ∧ Dp K H y (PySem.W.Datum.toD b) ∧ Q (.bl (decide (a = b))) H
theorem op_eqY {α : Type} [DecidableEq α] [PySem.W.Datum α] (hd : PySem.W.Datum.depth α ≤ 60) (hu : X.A.units + 65 < cLine) : OpR X (compareOp .Eq) (rEqY X.K α) := by
  intro pins s σ H x y v u Q I rx ry h
  obtain ⟨a, b, h1, h2, q⟩ := h
  obtain ⟨_, r1⟩ := Dp.reads I _ x v h1 rx
  obtain ⟨_, r2⟩ := Dp.reads I _ y u h2 ry
  have d1 := PySem.W.Datum.depth_le (α := α) a
  have d2 := PySem.W.Datum.depth_le (α := α) b
  refine SeqAt.eq_plain r1 r2 (PySem.W.Datum.plain a) (PySem.W.Datum.plain b) (by omega) ⟨.bl _, H, I, rfl, ?_⟩
  rw [PySem.W.Datum.eqv]
  exact q
end
section
variable {X : Cx}
/-- l.index(x), x in l, both with a Lean type -/
def rIndexY (K : PySem.W.Frag) (α : Type) [DecidableEq α] [PySem.W.Datum α] : V → List V → Hp → VK → Prop := fun x vs H Q => ∃ (a : Addr) (y : V) (xs : List V) (p : α) (ps : List α) (j : Nat), x = .ref a ∧ vs = [y] ∧ SqL K H a xs ∧ DpAll K H xs (ps.map PySem.W.Datum.toD) ∧ Dp K H y (PySem.W.Datum.toD p) ∧ ps[j]? = some p ∧ ps.Nodup ∧ Q (.int (j : Nat)) H
theorem mt_indexY {α : Type} [DecidableEq α] [PySem.W.Datum α] (hd : PySem.W.Datum.depth α ≤ 60) (hu : X.A.units + 65 < cLine) : MtR X "list.index" (rIndexY X.K α) := by
  intro pins s σ H x xs v us Q I rx rxs h
  obtain ⟨a, y, ys, p, ps, j, rfl, rfl, hl, hds, hy, hj, nd, q⟩ := h
  have hm : p ∈ ps := List.mem_of_getElem? hj
  have hi : ps.idxOf p = j := by
    have h1 := List.idxOf_lt_length_of_mem hm
    exact (List.getElem?_inj h1 nd).mp (by rw [hj, List.getElem?_eq_getElem h1, List.getElem_idxOf h1])
  cases rx
  cases rxs with
  | cons ry rt =>
    rename_i uy ut
    cases rt
    obtain ⟨_, r1⟩ := Dp.reads I _ y uy hy ry
    obtain ⟨its, rv, ht, hlen⟩ := I.list hl
    have h4 := Dp.readsAll I _ ys its hds rv
    have HA : PySem.W.HoldAll s.heap its ps := h4
    have h5 := HA.length
    have h6 := rv.length
    exact PySem.W.index_list_datum ht.isList HA ⟨_, r1⟩ (by omega) (by omega) hm ⟨.int (j : Nat), H, I.tok _, ⟨_, by rw [hi]⟩, q⟩
end
end Yd
namespace Yd
open PySem L2
/-! ### the class Site: the doors that a standing gives -/
/-- what stands at z of a kind that has doors -/
def spGives (K : PySem.W.Frag) (CU fN fG fI fP fT : Addr) : Sp := fun vs H Q _ => ∃ (a C dx : Addr) (fs : List (Str × V)) (dd : Addr) (ts : List Addr) (ss : List Str) (ng : List (List Str × List Str)) (z : Str) (i : Nat) (p : List Str × List Str), vs = [.ref a, .str z] ∧ DoorC K C fN fG fI fP fT ∧ H a = some (.ins C dx fs) ∧ fs.lookup ("_doors" : Str) = some (.ref dd) ∧
  DoorsAt H dd ss ts ng ∧ z.length ≤ 100 ∧ ss[i]? = some z ∧ ng[i]? = some p ∧ ∀ g, H g = some (.tup (p.2.map V.str)) → Q (.ref g) H
def spGivesAt (n : Kn) (CS : Addr) : Sp := fun vs H Q _ => ∃ (s : Addr) (d : SD) (xs : List PX) (ks : List KD) (k : KD) (nm z : Str) (i : Nat) (p : List Str × List Str), vs = [.ref s, .str nm, .str z] ∧ nm = k.nm ∧ SiteAt H n CS s d xs ks ∧ k ∈ ks ∧ z.length ≤ 100 ∧ k.ss[i]? = some z ∧ k.ng[i]? = some p ∧ ∀ g, H g = some (.tup (p.2.map V.str)) → Q (.ref g) H
/-- every row is a standing of a kind with its needs and its doors -/
theorem rows_of {hs : List Pr} : ∀ {ks : List KD} {ps : List Str} {r : Row}, r ∈ lawRows ks ps hs → ∃ k ∈ ks, ∃ i : Nat, k.ss[i]? = some r.1.2 ∧ k.ng[i]? = some r.2 ∧ r.1.1 = k.nm
  | [], _, _, h => nomatch h
  | k :: ks, ps, r, h => by
    have pr : ∀ here, r ∈ presRow k here hs → ∃ i : Nat, k.ss[i]? = some r.1.2 ∧ k.ng[i]? = some r.2 ∧ r.1.1 = k.nm := fun here m => by
      unfold presRow at m
      obtain ⟨z, hz, rfl⟩ := List.mem_map.mp m
      obtain ⟨i, hi⟩ := List.mem_iff_getElem?.mp (List.mem_filter.mp hz).1
      rw [List.getElem?_zip_eq_some] at hi
      exact ⟨i, hi.1, hi.2, rfl⟩
    have h : r ∈ (if k.one = true then presRow k (ps.take 1) hs ++ lawRows ks (ps.drop 1) hs else presRow k [] hs ++ lawRows ks ps hs) := h
    have fin : ∀ {here ps'}, r ∈ presRow k here hs ++ lawRows ks ps' hs → ∃ k' ∈ k :: ks, ∃ i : Nat, k'.ss[i]? = some r.1.2 ∧ k'.ng[i]? = some r.2 ∧ r.1.1 = k'.nm := fun {here ps'} m => by
      rcases List.mem_append.mp m with m | m
      · obtain ⟨i, q⟩ := pr _ m
        exact ⟨k, List.mem_cons_self .., i, q⟩
      · obtain ⟨k', hk', q⟩ := rows_of m
        exact ⟨k', List.mem_cons_of_mem _ hk', q⟩
    split at h
    · exact fin h
    · exact fin h
section
variable {P : Program} {w : World} {K : PySem.W.Frag} {mg : Str → Option Value} {base : Heap}
theorem scDGives : FnScope ["self", "standing"] ["self", "standing"] (defScope sDoorsGives) := ⟨rfl, rfl, rfl, by decide +kernel, rfl, by decide +kernel, by decide +kernel⟩
theorem ok_gives {f CU fN fG fI fP fT : Addr} {fd fdI : FuncData} (F : Fun K "gives" "Doors.gives" sDoorsGives f fd) (GI : FnOk P w K mg base (L2.CX P w) 3 fI fdI ["self", "at"] (spDGet K CU)) (bI : Binds K fdI ["self", "at"] []) :
    FnOk P w K mg base (L2.CX P w) 5 f fd ["self", "standing"] (spGives K CU fN fG fI fP fT) := by
  refine F.okX scDGives (fun vs H Q E h => ?_) (fun cdv A outer s H vs Q E hr h => ?_)
  · obtain ⟨a, C, dx, fs, dd, ts, ss, ng, z, i, p, rfl, _⟩ := h
    rfl
  · obtain ⟨a, C, dx, fs, dd, ts, ss, ng, z, i, p, rfl, dc, ha, l1, D, hz, hi, hp, k⟩ := h
    refine ⟨_, pss_one (ps_ret (pe_ix ix_tup (pe_subO (E := fun _ => E) (pv 0) (pv 1) dc.gi GI hr bI (at_all (passes_call (takes_of rfl rfl rfl rfl) fun _ _ _ _ h => h))) pe_int (fun _ _ => rfl))), ?_⟩
    refine ⟨_, rfl, _, rfl, a, dx, fs, rfl, ha, a, C, ss, ng, z, rfl, dc.cls, dc.nD, ⟨dx, fs, dd, ts, ha, l1, ⟨.of D.d, D.len, D.nd, D.ln, D.at_⟩⟩, hz, fun m => absurd (List.mem_of_getElem? hi) m, fun j q t nn g hj hq ht _ hg => ?_⟩
    have e := nd_ix D.nd hi hj
    subst e
    rw [hp] at hq
    cases hq
    exact ⟨t, _, 1, _, rfl, rfl, SqT.of ht, at_c (j := 1) rfl rfl, k g hg⟩
theorem scGivesAt : FnScope ["self", "kind", "standing"] ["self", "kind", "standing"] (defScope sSiteGivesAt) := ⟨rfl, rfl, rfl, by decide +kernel, rfl, by decide +kernel, by decide +kernel⟩
theorem ok_givesAt {f CS : Addr} {fd dG : FuncData} {n : Kn} (F : Fun K "gives_at" "Site.gives_at" sSiteGivesAt f fd) (E : KEnv P w K mg base n) (sc : SCls K CS)
    (GG : FnOk P w K mg base (L2.CX P w) 5 n.G dG ["self", "standing"] (spGives K n.CU n.N n.G n.I n.P n.T)) (bG : Binds K dG ["self", "standing"] []) : FnOk P w K mg base CX0 6 f fd ["self", "kind", "standing"] (spGivesAt n CS) := by
  refine F.ok scGivesAt (fun vs H Q E h => ?_) (fun cdv A outer s H vs Q E' hr h => ?_)
  · obtain ⟨s, d, xs, ks, k, nm, z, i, p, rfl, _⟩ := h
    rfl
  · obtain ⟨s, d, xs, ks, kd, nm, z, i, p, rfl, rfl, st, mk, hz, hi, hp, k⟩ := h
    have hu := hu_of hr
    refine ⟨_, pss_one (ps_ret (pe_dynA (E := fun _ _ _ => False) (CX := L2.CX P w) (pe_dget hu (pe_fld (pv 0) rfl) (pv 1) (fun _ _ => rfl)) hr passF (pa_cons (pv 2) pa_nil))), ?_⟩
    obtain ⟨dx, es⟩ := st.ins
    obtain ⟨j, hj⟩ := List.mem_iff_getElem?.mp mk
    obtain ⟨x, hx, px⟩ := st.parts.get hj
    obtain ⟨fR, fW, dW, pk, _⟩ := (E.c kd.one).ex
    have dg : DGet H d.k (.str kd.nm) (some (.ref x.a)) := .inl ⟨_, Sum.inr kd.nm, .of st.dict, rfl, (dP_some st.nd (by rw [List.getElem?_map, hj]; rfl) (by rw [List.getElem?_map, hx]; rfl)).symm⟩
    exact ⟨_, rfl, s, CS, dx, _, _, rfl, es, sc.cls, sc.nK, rfl, _, rfl, d.k, _, rfl, dg, x.a, _, x.dx, _, n.G, dG, _, _, rfl, px.pa.at_, fs_no _ _ _ (by decide +kernel) (by decide +kernel) (by decide +kernel), pk.d.cls, pk.d.mG, GG, bG, _, rfl,
      x.a, _, x.dx, _, x.dd, x.ts, kd.ss, kd.ng, z, i, p, rfl, pk.d, px.pa.at_, fs_doors _ _ _, px.pa.D, hz, hi, hp, k⟩
end
end Yd
namespace Yd
open PySem L2
/-! ### the class Site: the open doors and who gives them -/
structure ShownAt (K : PySem.W.Frag) (H : Hp) (n : Kn) (CS CH s : Addr) (d : SD) (xs : List PX) (ks : List KD) (pl : Addr) (ps : List Str) (h dh : Addr) (hs : List Pr) : Prop where
  st : SiteAt H n CS s d xs ks
  k11 : ks.length ≤ 11
  ok : KdsOk ks
  pl : SqT K H pl (ps.map V.str)
  po : PlOk ks ps
  p12 : ∀ z ∈ ps, z.length ≤ 100
  hh : HoldAt H CH h dh hs
  sub : ∀ q ∈ hs, q ∈ spotsL ks
  h500 : hs.length ≤ 500
section
variable {K : PySem.W.Frag} {H : Hp} {n : Kn} {CS CH s : Addr} {d : SD} {xs : List PX} {ks : List KD} {pl : Addr} {ps : List Str} {h dh : Addr} {hs : List Pr}
theorem ShownAt.noBad (z : ShownAt K H n CS CH s d xs ks pl ps h dh hs) {y : Str} {P : Prop} (hy : badN ks ps hs = some y) : P := by
  rw [badN_none z.ok.names z.po z.sub] at hy
  cases hy
theorem ShownAt.rows (z : ShownAt K H n CS CH s d xs ks pl ps h dh hs) : (lawRows ks ps hs).map (·.1) = presentL ks ps hs := rows_present z.ok.names z.po.1 (fun k hk => (z.ok.ok k hk).ln) z.sub
theorem ShownAt.sl (z : ShownAt K H n CS CH s d xs ks pl ps h dh hs) : ∀ q ∈ hs, q.1.length ≤ 100 ∧ q.2.length ≤ 100 := fun q m => z.ok.slen (spots_sub (z.sub q m))
theorem ShownAt.k60 (z : ShownAt K H n CS CH s d xs ks pl ps h dh hs) : ks.length ≤ 60 := by
  have := z.k11
  omega
end
theorem rows_cnt {hs : List Pr} : ∀ {ks : List KD} {ps : List Str}, (∀ k ∈ ks, k.ss.length ≤ 10) → (lawRows ks ps hs).length ≤ ks.length * 10
  | [], _, _ => Nat.zero_le _
  | k :: ks, ps, h => by
    have hk := h k (List.mem_cons_self ..)
    have a1 := presRow_len k (ps.take 1) hs
    have a2 := presRow_len k [] hs
    have r1 := rows_cnt (hs := hs) (ks := ks) (ps := ps.drop 1) fun q hq => h q (List.mem_cons_of_mem _ hq)
    have r2 := rows_cnt (hs := hs) (ks := ks) (ps := ps) fun q hq => h q (List.mem_cons_of_mem _ hq)
    show (if k.one = true then presRow k (ps.take 1) hs ++ lawRows ks (ps.drop 1) hs else presRow k [] hs ++ lawRows ks ps hs).length ≤ _
    rw [List.length_cons]
    split <;> rw [List.length_append] <;> omega
theorem rows_cnt110 {ks : List KD} {ps : List Str} {hs : List Pr} (h : KdsOk ks) (l : ks.length ≤ 11) : (lawRows ks ps hs).length ≤ 110 := by
  have := rows_cnt (hs := hs) (ps := ps) fun k hk => (h.fit k hk).s10
  omega
/-- a row of what is present: its needs and its doors -/
theorem rows_ok {ks : List KD} {ps : List Str} {hs : List Pr} (h : KdsOk ks) {r : Row} (m : r ∈ lawRows ks ps hs) : r.2.1.length ≤ 8 ∧ r.2.2.length ≤ 8 ∧ r.1.2.length ≤ 100 ∧ (∀ d ∈ r.2.1, d.length ≤ 100) ∧ ∀ d ∈ r.2.2, d.length ≤ 100 := by
  obtain ⟨k, hk, i, h1, h2, _⟩ := rows_of m
  have o := h.ok k hk
  have m2 := List.mem_of_getElem? h2
  obtain ⟨_, _, a, b⟩ := o.ng _ m2
  obtain ⟨c, d⟩ := o.dn _ m2
  refine ⟨a, b, o.sl _ (List.mem_of_getElem? h1), fun x hx => ?_, fun x hx => ?_⟩
  · obtain ⟨j, hj, nk⟩ := c x hx
    exact Nat.le_trans nk.1 (by omega)
  · obtain ⟨j, hj, nk⟩ := d x hx
    exact Nat.le_trans nk.1 (by omega)
/-- the doors that rows give -/
def doorsL (rs : List Row) : List Str := rs.flatMap fun r => r.2.2
theorem doorsL_more {rs : List Row} {i : Nat} {r : Row} (h : rs[i]? = some r) : doorsL (rs.take (i + 1)) = doorsL (rs.take i) ++ r.2.2 := by
  unfold doorsL
  rw [List.take_add_one, h, List.flatMap_append]
  simp
theorem doorsL_len {rs : List Row} (h : ∀ r ∈ rs, r.2.2.length ≤ 8) : (doorsL rs).length ≤ rs.length * 8 := by
  unfold doorsL
  induction rs with
  | nil => exact Nat.zero_le _
  | cons r rs ih =>
    have := ih fun q hq => h q (List.mem_cons_of_mem _ hq)
    have := h r (List.mem_cons_self ..)
    rw [List.flatMap_cons, List.length_append, List.length_cons]
    omega
/-- the first of the rows that gives a door -/
def giverL (rs : List Row) (z : Str) : Option Row := rs.find? fun r => decide (z ∈ r.2.2)
theorem giver_at {z : Str} : ∀ {rs : List Row} {i : Nat} {r : Row}, rs[i]? = some r → (∀ q ∈ rs.take i, z ∉ q.2.2) → z ∈ r.2.2 → giverL rs z = some r
  | [], _, _, h, _, _ => by simp at h
  | a :: rs, 0, r, h, _, m => by
    cases h
    unfold giverL
    rw [List.find?_cons_of_pos (by simpa using m)]
  | a :: rs, i + 1, r, h, no, m => by
    have na : z ∉ a.2.2 := no a (by rw [List.take_succ_cons]; exact List.mem_cons_self ..)
    unfold giverL
    rw [List.find?_cons_of_neg (by simpa using na)]
    exact giver_at (by simpa using h) (fun q hq => no q (by rw [List.take_succ_cons]; exact List.mem_cons_of_mem _ hq)) m
theorem giver_no {z : Str} {rs : List Row} (h : ∀ q ∈ rs, z ∉ q.2.2) : giverL rs z = none := by
  unfold giverL
  exact List.find?_eq_none.mpr fun q hq => by simpa using h q hq
def spOpened (K : PySem.W.Frag) (n : Kn) (CS CH : Addr) : Sp := fun vs H Q _ => ∃ (s : Addr) (d : SD) (xs : List PX) (ks : List KD) (pl : Addr) (ps : List Str) (h dh : Addr) (hs : List Pr), vs = [.ref s, .ref pl, .ref h] ∧ ShownAt K H n CS CH s d xs ks pl ps h dh hs ∧
  ∀ q H', Same H H' → H q = none → H' q = some (.tup ((onceS (doorsL (lawRows ks ps hs))).map V.str)) → Q (.ref q) H'
section
variable {P : Program} {w : World} {K : PySem.W.Frag} {mg : Str → Option Value} {base : Heap}
def nOpened : List Str := ["self", "places", "hold", "kind", "standing", "door"]
theorem scOpened : FnScope nOpened ["self", "places", "hold"] (defScope sSiteOpened) := ⟨rfl, rfl, rfl, by decide +kernel, rfl, by decide +kernel, by decide +kernel⟩
theorem ok_opened {f fP fG fX CS CH : Addr} {fd dP dG dX : FuncData} {n : Kn} (F : Fun K "opened" "Site.opened" sSiteOpened f fd) (sc : SCls K CS)
    (mP : Meth K CS "present" fP) (GP : FnOk P w K mg base (L2.CX P w) 5 fP dP ["self", "places", "hold"] (spPresent K n CS CH)) (bP : Binds K dP ["self", "places", "hold"] [])
    (mG : Meth K CS "gives_at" fG) (GG : FnOk P w K mg base CX0 6 fG dG ["self", "kind", "standing"] (spGivesAt n CS)) (bG : Binds K dG ["self", "kind", "standing"] [])
    (TX : Fn K mg "distinct" sDistinct ["names"] fX dX) (GX : FnOk P w K mg base CX0 1 fX dX ["names"] (spDistinct K)) : FnOk P w K mg base CX0 7 f fd ["self", "places", "hold"] (spOpened K n CS CH) := by
  refine F.ok scOpened (fun vs H Q E h => ?_) (fun cdv A outer s H vs Q E hr h => ?_)
  · obtain ⟨s, d, xs, ks, pl, ps, h', dh, hs, rfl, _⟩ := h
    rfl
  · obtain ⟨s, d, xs, ks, pl, ps, h, dh, hs, rfl, sh, k⟩ := h
    have r1 : Room 1 _ := hr.mono (by decide)
    have r5 : Room 5 _ := hr.mono (by decide)
    refine ⟨_, pss_one (ps_ret (pe_call GX r1 rfl TX.g TX.F.kp TX.b .nil pass0 (pa_cons (pe_lc2 (own := [("kind", 3), ("standing", 4), ("door", 5)]) (vs1 := [5]) (g := gTup K 2 (gCons (gName 3) (gCons (gName 4) gNil))) (tt := tYes)
      (wi1 := iTup K (tMeth CS "gives_at" (spGivesAt n CS) [] (fun _ _ _ => False) (tVar 0) (tCons (tVar 3) (tCons (tVar 4) tNil)))) (g1 := gName 5) (tt1 := tYes) (te := tVar 5) rfl scOpened.nd
      (pi_tup (pe_meth (E := fun _ _ _ => False) (pv 0) sc.cls mP GP r5 bP .nil passF (pa_cons (pv 1) (pa_cons (pv 2) pa_nil)))) (blkOk_by (N := nOpened) (sc := defScope sSiteOpened) (by decide +kernel)) (by decide)
      (fun _ _ _ _ _ => pg_tup (by rfl) (pgs_cons (pg_name (i := 3) scOpened.nd rfl (Or.inl rfl)) (pgs_cons (pg_name (i := 4) scOpened.nd rfl (Or.inl rfl)) pgs_nil)))
      (fun _ _ _ _ _ => pts_nil) (fun _ _ _ _ _ => pi_tup (pe_meth (E := fun _ _ _ => False) (pv 0) sc.cls mG GG hr bG .nil pass0 (pa_cons (pv 3) (pa_cons (pv 4) pa_nil)))) (fun _ _ _ _ _ => pg_name (i := 5) scOpened.nd rfl (Or.inl rfl)) (fun _ _ _ _ _ => pts_nil)
      (fun _ _ _ _ _ => pv 5)) pa_nil))), ?_⟩
    obtain ⟨dx, es⟩ := sh.st.ins
    refine ⟨_, rfl, s, dx, _, rfl, es, rfl, _, rfl, _, rfl, s, d, xs, ks, pl, ps, h, dh, hs, rfl, sh.st, sh.k60, sh.ok.fit, sh.pl, sh.po.1, sh.p12, sh.hh, sh.h500, sh.sl, fun y hy => sh.noBad hy, fun _ q ys H1 s1 hq e1 p1 => ⟨q, rfl, ⟨_, SqT.of e1⟩, fun D hD => ?_⟩⟩
    rw [← sh.rows] at p1
    have l1 := p1.len
    rw [List.length_map] at l1
    have l110 := rows_cnt110 (ps := ps) (hs := hs) sh.ok sh.k11
    have r5' : ∀ i, (doorsL ((lawRows ks ps hs).take i)).length ≤ 880 := fun i => by
      refine Nat.le_trans (doorsL_len fun r hr => (rows_ok sh.ok (List.mem_of_mem_take hr)).2.1) ?_
      rw [List.length_take]
      omega
    have st1 := sh.st.keep s1
    refine walk_run (n := ys.length) (fun i H' => Same H1 H' ∧ H' D = some (.lst ((doorsL ((lawRows ks ps hs).take i)).map V.str))) ⟨same_new hD, upd_same⟩ (fun i H' hi z => ⟨_, ys[i], SqT.of (z.1 _ _ e1), List.getElem?_eq_getElem hi⟩) (fun H' z => ⟨_, SqT.of (z.1 _ _ e1), Nat.le_refl _⟩) ?_ ?_
    · rintro i y H' H2 hi ⟨s2, eD⟩ ⟨rfl, gy⟩
      have hy := gy _ (SqT.of (s2 _ _ e1))
      obtain ⟨t, p, rfl, hp, ht⟩ := (p1.same s2).get hy
      rw [List.getElem?_map] at hp
      obtain ⟨r, hr2, rfl⟩ := Option.map_eq_some_iff.mp hp
      obtain ⟨kd, mk, j, hz, hj, en⟩ := rows_of (List.mem_of_getElem? hr2)
      have ro := rows_ok sh.ok (List.mem_of_getElem? hr2)
      have st2 := st1.keep s2
      obtain ⟨dx2, es2⟩ := st2.ins
      refine ⟨t, _, rfl, SqT.of ht, rfl, _, _, rfl, _, _, rfl, rfl, rfl, _, rfl, s, dx2, _, rfl, es2, rfl, _, rfl, _, rfl, s, d, xs, ks, kd, r.1.1, r.1.2, j, r.2, rfl, en, st2, mk, ro.2.2.1, hz, hj, fun g hg => ⟨g, rfl, ⟨_, SqT.of hg⟩, ?_⟩⟩
      refine walk_run (n := r.2.2.length) (fun j H4 => Same H1 H4 ∧ H4 g = some (.tup (r.2.2.map V.str)) ∧ H4 D = some (.lst ((doorsL ((lawRows ks ps hs).take i) ++ r.2.2.take j).map V.str)))
        ⟨s2, hg, by rw [List.take_zero, List.append_nil]; exact eD⟩ (fun j H4 hj h => ⟨_, V.str r.2.2[j], SqT.of h.2.1, by rw [List.getElem?_map, List.getElem?_eq_getElem hj]; rfl⟩) (fun H4 h => ⟨_, SqT.of h.2.1, by rw [List.length_map]; exact Nat.le_refl _⟩) ?_ ?_
      · rintro j y H4 H5 hj ⟨s4, eg4, e4⟩ ⟨rfl, gy⟩
        obtain ⟨z, hz, rfl⟩ := get_strs2 (gy _ (SqT.of eg4))
        refine ⟨rfl, _, rfl, _, e4, small1000 ?_, fun b o e => by rw [upd_ne (ne_of_none e hD)]; exact s4 b o e, by rw [upd_ne (ne_of eg4 e4 (fun z => nomatch z))]; exact eg4, ?_⟩
        · have := r5' i
          have := ro.2.1
          rw [List.length_map, List.length_append, List.length_take]
          omega
        · have e : r.2.2.take (j + 1) = r.2.2.take j ++ [z] := by rw [List.take_add_one, hz]; rfl
          rw [upd_same, e, ← List.append_assoc, List.map_append (l₂ := [z])]
          rfl
      · rintro H4 ⟨s4, _, e4⟩
        rw [List.take_length] at e4
        exact ⟨s4, by rw [doorsL_more hr2]; exact e4⟩
    · rintro H' ⟨s2, eD⟩
      rw [l1, List.take_length] at eD
      refine ⟨D, _, rfl, .inl (SqL.of eD), ?_, fun q H3 s3 hq e3 => k q H3 ((s1.trans s2).trans s3) ((s1.trans s2).free hq) e3⟩
      have := r5' (lawRows ks ps hs).length
      rw [List.take_length] at this
      omega
end
end Yd
namespace Yd
open PySem L2
/-! ### the class Site: what a standing needs; the first need that is not met -/
def spNeedsD (K : PySem.W.Frag) (CU fN fG fI fP fT : Addr) : Sp := fun vs H Q _ => ∃ (a C dx : Addr) (fs : List (Str × V)) (dd : Addr) (ts : List Addr) (ss : List Str) (ng : List (List Str × List Str)) (z : Str) (i : Nat) (p : List Str × List Str), vs = [.ref a, .str z] ∧ DoorC K C fN fG fI fP fT ∧ H a = some (.ins C dx fs) ∧ fs.lookup ("_doors" : Str) = some (.ref dd) ∧
  DoorsAt H dd ss ts ng ∧ z.length ≤ 100 ∧ ss[i]? = some z ∧ ng[i]? = some p ∧ ∀ g, H g = some (.tup (p.1.map V.str)) → Q (.ref g) H
def spNeedsAt (n : Kn) (CS : Addr) : Sp := fun vs H Q _ => ∃ (s : Addr) (d : SD) (xs : List PX) (ks : List KD) (k : KD) (nm z : Str) (i : Nat) (p : List Str × List Str), vs = [.ref s, .str nm, .str z] ∧ nm = k.nm ∧ SiteAt H n CS s d xs ks ∧ k ∈ ks ∧ z.length ≤ 100 ∧ k.ss[i]? = some z ∧ k.ng[i]? = some p ∧ ∀ g, H g = some (.tup (p.1.map V.str)) → Q (.ref g) H
theorem once_in (xs : List Str) (z : Str) : z ∈ onceS xs ↔ z ∈ xs := by
  have gen : ∀ (ys acc : List Str), z ∈ ys.foldl addOnce acc ↔ z ∈ acc ∨ z ∈ ys := fun ys => by
    induction ys with
    | nil => intro acc; simp
    | cons y ys ih =>
      intro acc
      rw [List.foldl_cons, ih]
      unfold addOnce
      by_cases m : y ∈ acc
      · rw [if_pos m, List.mem_cons]
        exact ⟨fun h => h.imp id .inr, fun h => h.elim .inl fun h => h.elim (fun e => .inl (e ▸ m)) .inr⟩
      · rw [if_neg m, List.mem_append, List.mem_singleton, List.mem_cons, or_assoc]
  have := gen xs []
  unfold onceS
  rw [this]
  simp
/-- the first need of the rows that is none of these doors -/
def unmetR (op : List Str) : List Row → Option (Row × Str)
  | [] => none
  | r :: rs => match r.2.1.find? (fun z => decide (z ∉ op)) with
    | some z => some (r, z)
    | none => unmetR op rs
def unmetL (rs : List Row) : Option (Row × Str) := unmetR (doorsL rs) rs
theorem find_at {p : Str → Bool} : ∀ {xs : List Str} {i : Nat} {z : Str}, xs[i]? = some z → (∀ y ∈ xs.take i, p y = false) → p z = true → xs.find? p = some z
  | [], _, _, h, _, _ => by simp at h
  | a :: xs, 0, z, h, _, m => by
    cases h
    rw [List.find?_cons_of_pos m]
  | a :: xs, i + 1, z, h, no, m => by
    have na : p a = false := no a (by rw [List.take_succ_cons]; exact List.mem_cons_self ..)
    rw [List.find?_cons_of_neg (by rw [na]; exact Bool.false_ne_true)]
    exact find_at (by simpa using h) (fun q hq => no q (by rw [List.take_succ_cons]; exact List.mem_cons_of_mem _ hq)) m
theorem unmet_at {op : List Str} : ∀ {rs : List Row} {i j : Nat} {r : Row} {z : Str}, rs[i]? = some r → (∀ q ∈ rs.take i, ∀ y ∈ q.2.1, y ∈ op) → r.2.1[j]? = some z → (∀ y ∈ r.2.1.take j, y ∈ op) → z ∉ op → unmetR op rs = some (r, z)
  | [], _, _, _, _, h, _, _, _, _ => by simp at h
  | a :: rs, 0, j, r, z, h, _, hz, no, m => by
    cases h
    have f : a.2.1.find? (fun y => decide (y ∉ op)) = some z := find_at hz (fun y hy => decide_eq_false (p := y ∉ op) (fun n => n (no y hy))) (decide_eq_true m)
    unfold unmetR
    rw [f]
  | a :: rs, i + 1, j, r, z, h, na, hz, no, m => by
    have a0 : a.2.1.find? (fun z => decide (z ∉ op)) = none := List.find?_eq_none.mpr fun y hy => by
      have := na a (by rw [List.take_succ_cons]; exact List.mem_cons_self ..) y hy
      simpa using this
    unfold unmetR
    rw [a0]
    exact unmet_at (by simpa using h) (fun q hq => na q (by rw [List.take_succ_cons]; exact List.mem_cons_of_mem _ hq)) hz no m
theorem unmet_no {op : List Str} : ∀ {rs : List Row}, (∀ q ∈ rs, ∀ y ∈ q.2.1, y ∈ op) → unmetR op rs = none
  | [], _ => rfl
  | a :: rs, h => by
    have a0 : a.2.1.find? (fun z => decide (z ∉ op)) = none := List.find?_eq_none.mpr fun y hy => by
      have := h a (List.mem_cons_self ..) y hy
      simpa using this
    unfold unmetR
    rw [a0]
    exact unmet_no fun q hq => h q (List.mem_cons_of_mem _ hq)
def spUnmet (K : PySem.W.Frag) (n : Kn) (CS CH : Addr) : Sp := fun vs H Q _ => ∃ (s : Addr) (d : SD) (xs : List PX) (ks : List KD) (pl : Addr) (ps : List Str) (h dh : Addr) (hs : List Pr), vs = [.ref s, .ref pl, .ref h] ∧ ShownAt K H n CS CH s d xs ks pl ps h dh hs ∧
  (unmetL (lawRows ks ps hs) = none → ∀ H', Same H H' → Q .non H') ∧ (∀ r z, unmetL (lawRows ks ps hs) = some (r, z) → ∀ q H', Same H H' → H q = none → H' q = some (.tup [.str r.1.1, .str r.1.2, .str z]) → Q (.ref q) H')
section
variable {P : Program} {w : World} {K : PySem.W.Frag} {mg : Str → Option Value} {base : Heap}
theorem scDNeeds : FnScope ["self", "standing"] ["self", "standing"] (defScope sDoorsNeeds) := ⟨rfl, rfl, rfl, by decide +kernel, rfl, by decide +kernel, by decide +kernel⟩
theorem ok_needsD {f CU fN fG fI fP fT : Addr} {fd fdI : FuncData} (F : Fun K "needs" "Doors.needs" sDoorsNeeds f fd) (GI : FnOk P w K mg base (L2.CX P w) 3 fI fdI ["self", "at"] (spDGet K CU)) (bI : Binds K fdI ["self", "at"] []) :
    FnOk P w K mg base (L2.CX P w) 5 f fd ["self", "standing"] (spNeedsD K CU fN fG fI fP fT) := by
  refine F.okX scDNeeds (fun vs H Q E h => ?_) (fun cdv A outer s H vs Q E hr h => ?_)
  · obtain ⟨a, C, dx, fs, dd, ts, ss, ng, z, i, p, rfl, _⟩ := h
    rfl
  · obtain ⟨a, C, dx, fs, dd, ts, ss, ng, z, i, p, rfl, dc, ha, l1, D, hz, hi, hp, k⟩ := h
    refine ⟨_, pss_one (ps_ret (pe_ix ix_tup (pe_subO (E := fun _ => E) (pv 0) (pv 1) dc.gi GI hr bI (at_all (passes_call (takes_of rfl rfl rfl rfl) fun _ _ _ _ h => h))) pe_int (fun _ _ => rfl))), ?_⟩
    refine ⟨_, rfl, _, rfl, a, dx, fs, rfl, ha, a, C, ss, ng, z, rfl, dc.cls, dc.nD, ⟨dx, fs, dd, ts, ha, l1, ⟨.of D.d, D.len, D.nd, D.ln, D.at_⟩⟩, hz, fun m => absurd (List.mem_of_getElem? hi) m, fun j q t nn g hj hq ht hn _ => ?_⟩
    have e := nd_ix D.nd hi hj
    subst e
    rw [hp] at hq
    cases hq
    exact ⟨t, _, 0, _, rfl, rfl, SqT.of ht, at_c (j := 0) rfl rfl, k nn hn⟩
theorem scNeedsAt : FnScope ["self", "kind", "standing"] ["self", "kind", "standing"] (defScope sSiteNeedsAt) := ⟨rfl, rfl, rfl, by decide +kernel, rfl, by decide +kernel, by decide +kernel⟩
theorem ok_needsAt {f CS : Addr} {fd dG : FuncData} {n : Kn} (F : Fun K "needs_at" "Site.needs_at" sSiteNeedsAt f fd) (E : KEnv P w K mg base n) (sc : SCls K CS)
    (GG : FnOk P w K mg base (L2.CX P w) 5 n.N dG ["self", "standing"] (spNeedsD K n.CU n.N n.G n.I n.P n.T)) (bG : Binds K dG ["self", "standing"] []) : FnOk P w K mg base CX0 6 f fd ["self", "kind", "standing"] (spNeedsAt n CS) := by
  refine F.ok scNeedsAt (fun vs H Q E h => ?_) (fun cdv A outer s H vs Q E' hr h => ?_)
  · obtain ⟨s, d, xs, ks, k, nm, z, i, p, rfl, _⟩ := h
    rfl
  · obtain ⟨s, d, xs, ks, kd, nm, z, i, p, rfl, rfl, st, mk, hz, hi, hp, k⟩ := h
    have hu := hu_of hr
    refine ⟨_, pss_one (ps_ret (pe_dynA (E := fun _ _ _ => False) (CX := L2.CX P w) (pe_dget hu (pe_fld (pv 0) rfl) (pv 1) (fun _ _ => rfl)) hr passF (pa_cons (pv 2) pa_nil))), ?_⟩
    obtain ⟨dx, es⟩ := st.ins
    obtain ⟨j, hj⟩ := List.mem_iff_getElem?.mp mk
    obtain ⟨x, hx, px⟩ := st.parts.get hj
    obtain ⟨fR, fW, dW, pk, _⟩ := (E.c kd.one).ex
    have dg : DGet H d.k (.str kd.nm) (some (.ref x.a)) := .inl ⟨_, Sum.inr kd.nm, .of st.dict, rfl, (dP_some st.nd (by rw [List.getElem?_map, hj]; rfl) (by rw [List.getElem?_map, hx]; rfl)).symm⟩
    exact ⟨_, rfl, s, CS, dx, _, _, rfl, es, sc.cls, sc.nK, rfl, _, rfl, d.k, _, rfl, dg, x.a, _, x.dx, _, n.N, dG, _, _, rfl, px.pa.at_, fs_no _ _ _ (by decide +kernel) (by decide +kernel) (by decide +kernel), pk.d.cls, pk.d.mN, GG, bG, _, rfl,
      x.a, _, x.dx, _, x.dd, x.ts, kd.ss, kd.ng, z, i, p, rfl, pk.d, px.pa.at_, fs_doors _ _ _, px.pa.D, hz, hi, hp, k⟩
def nUnmet : List Str := ["self", "places", "hold", "opened", "kind", "standing", "door"]
theorem scUnmet : FnScope nUnmet ["self", "places", "hold"] (defScope sSiteUnmet) := ⟨rfl, rfl, rfl, by decide +kernel, rfl, by decide +kernel, by decide +kernel⟩
theorem ok_unmet {f fP fN fO CS CH : Addr} {fd dP dN dO : FuncData} {n : Kn} (F : Fun K "unmet" "Site.unmet" sSiteUnmet f fd) (sc : SCls K CS)
    (mO : Meth K CS "opened" fO) (GO : FnOk P w K mg base CX0 7 fO dO ["self", "places", "hold"] (spOpened K n CS CH)) (bO : Binds K dO ["self", "places", "hold"] [])
    (mP : Meth K CS "present" fP) (GP : FnOk P w K mg base (L2.CX P w) 5 fP dP ["self", "places", "hold"] (spPresent K n CS CH)) (bP : Binds K dP ["self", "places", "hold"] [])
    (mN : Meth K CS "needs_at" fN) (GN : FnOk P w K mg base CX0 6 fN dN ["self", "kind", "standing"] (spNeedsAt n CS)) (bN : Binds K dN ["self", "kind", "standing"] []) : FnOk P w K mg base CX0 8 f fd ["self", "places", "hold"] (spUnmet K n CS CH) := by
  refine F.ok scUnmet (fun vs H Q E h => ?_) (fun cdv A outer s H vs Q E hr h => ?_)
  · obtain ⟨s, d, xs, ks, pl, ps, h', dh, hs, rfl, _⟩ := h
    rfl
  · obtain ⟨s, d, xs, ks, pl, ps, h, dh, hs, rfl, sh, k1, k2⟩ := h
    have r5 : Room 5 _ := hr.mono (by decide)
    have r6 : Room 6 _ := hr.mono (by decide)
    refine ⟨_, pss_cons (ps_set (i := 3) scUnmet.nd rfl (Or.inl rfl) (pe_meth (E := fun _ _ _ => False) (pv 0) sc.cls mO GO hr bO .nil pass0 (pa_cons (pv 1) (pa_cons (pv 2) pa_nil))))
      (pss_cons (ps_for PassesOwn.never rfl (pi_tup (pe_meth (E := fun _ _ _ => False) (pv 0) sc.cls mP GP r5 bP .nil passF (pa_cons (pv 1) (pa_cons (pv 2) pa_nil)))) (pg_tup (by rfl) (pgs_cons (pg_name (i := 4) scUnmet.nd rfl (Or.inl rfl)) (pgs_cons (pg_name (i := 5) scUnmet.nd rfl (Or.inl rfl)) pgs_nil)))
        (pss_one (ps_for PassesOwn.never rfl (pi_tup (pe_meth (E := fun _ _ _ => False) (pv 0) sc.cls mN GN r6 bN .nil pass0 (pa_cons (pv 4) (pa_cons (pv 5) pa_nil)))) (pg_name (i := 6) scUnmet.nd rfl (Or.inl rfl))
          (pss_one (ps_if (pt_cmpR op_notIn_seq (pv 6) (pv 3) rfl) (pss_one (ps_ret (pe_tup (pa_cons (pv 4) (pa_cons (pv 5) (pa_cons (pv 6) pa_nil)))))) pss_nil)))))
      (pss_one (ps_ret pe_non))), ?_⟩
    obtain ⟨dx, es⟩ := sh.st.ins
    refine ⟨_, rfl, s, dx, _, rfl, es, rfl, _, rfl, _, rfl, s, d, xs, ks, pl, ps, h, dh, hs, rfl, sh, fun q0 H0 s0 _ e0 => ?_⟩
    have st0 := sh.st.keep s0
    obtain ⟨dx0, es0⟩ := st0.ins
    refine ⟨_, rfl, s, dx0, _, rfl, es0, rfl, _, rfl, _, rfl, s, d, xs, ks, pl, ps, h, dh, hs, rfl, st0, sh.k60, sh.ok.fit, same_seqT s0 sh.pl, sh.po.1, sh.p12, sh.hh.keep s0, sh.h500, sh.sl, fun y hy => sh.noBad hy, fun _ q ys H1 s1 hq e1 p1 => ⟨q, rfl, ⟨_, SqT.of e1⟩, ?_⟩⟩
    rw [← sh.rows] at p1
    have l1 := p1.len
    rw [List.length_map] at l1
    have st1 := st0.keep s1
    have e01 := s1 _ _ e0
    refine for_run (n := ys.length) (fun i σ H' => Same H1 H' ∧ (∀ r ∈ (lawRows ks ps hs).take i, ∀ y ∈ r.2.1, y ∈ doorsL (lawRows ks ps hs)) ∧ ∃ v4 v5 v6 : Option V, σ = [some (.ref s), some (.ref pl), some (.ref h), some (.ref q0), v4, v5, v6])
      ⟨Same.refl _, fun _ m => (nomatch m), _, _, _, rfl⟩ (fun i σ H' hi z => ⟨_, ys[i], SqT.of (z.1 _ _ e1), List.getElem?_eq_getElem hi⟩) (fun σ H' z => ⟨_, SqT.of (z.1 _ _ e1), Nat.le_refl _⟩) ?_ ?_
    · rintro i y σ H' H2 hi ⟨s2, nb, v4, v5, v6, rfl⟩ ⟨rfl, gy⟩
      have hy := gy _ (SqT.of (s2 _ _ e1))
      obtain ⟨t, p, rfl, hp, ht⟩ := (p1.same s2).get hy
      rw [List.getElem?_map] at hp
      obtain ⟨r, hr2, rfl⟩ := Option.map_eq_some_iff.mp hp
      obtain ⟨kd, mk, j, hz2, hj, en⟩ := rows_of (List.mem_of_getElem? hr2)
      have ro := rows_ok sh.ok (List.mem_of_getElem? hr2)
      have st2 := st1.keep s2
      obtain ⟨dx2, es2⟩ := st2.ins
      refine ⟨t, _, rfl, SqT.of ht, rfl, _, _, rfl, _, _, rfl, rfl, ?_⟩
      refine ⟨_, rfl, s, dx2, _, rfl, es2, rfl, _, rfl, _, rfl, s, d, xs, ks, kd, r.1.1, r.1.2, j, r.2, rfl, en, st2, mk, ro.2.2.1, hz2, hj, fun g hg => ⟨g, rfl, ⟨_, SqT.of hg⟩, ?_⟩⟩
      refine for_run (n := r.2.1.length) (fun j σ H4 => Same H1 H4 ∧ H4 g = some (.tup (r.2.1.map V.str)) ∧ (∀ y ∈ r.2.1.take j, y ∈ doorsL (lawRows ks ps hs)) ∧ ∃ v6 : Option V, σ = [some (.ref s), some (.ref pl), some (.ref h), some (.ref q0), some (.str r.1.1), some (.str r.1.2), v6])
        ⟨s2, hg, fun _ m => (nomatch m), _, rfl⟩ (fun j σ H4 hj h => ⟨_, V.str r.2.1[j], SqT.of h.2.1, by rw [List.getElem?_map, List.getElem?_eq_getElem hj]; rfl⟩) (fun σ H4 h => ⟨_, SqT.of h.2.1, by rw [List.length_map]; exact Nat.le_refl _⟩) ?_ ?_
      · rintro j y σ H4 H5 hj ⟨s4, eg4, nb2, v6, rfl⟩ ⟨rfl, gy⟩
        obtain ⟨z, hz, rfl⟩ := get_strs2 (gy _ (SqT.of eg4))
        refine ⟨_, rfl, _, rfl, q0, _, rfl, .inr (SqT.of (s4 _ _ e01)), rfl, flat_strs _, _, rfl, ?_⟩
        show if (!inV (.str z) ((onceS (doorsL (lawRows ks ps hs))).map V.str)) = true then _ else _
        rw [inV_strs]
        by_cases m : z ∈ doorsL (lawRows ks ps hs)
        · rw [decide_eq_true ((once_in _ _).mpr m)]
          refine no rfl ⟨s4, eg4, fun y hy => ?_, _, rfl⟩
          rw [List.take_add_one, hz] at hy
          rcases List.mem_append.mp hy with hy | hy
          · exact nb2 y hy
          · rw [List.mem_singleton.mp hy]
            exact m
        · rw [decide_eq_false (fun q => m ((once_in _ _).mp q))]
          refine yes rfl ⟨_, rfl, _, rfl, _, rfl, (by show 3 ≤ sizeLine; decide), fun u hu => ?_⟩
          have sA := (s0.trans s1).trans s4
          exact k2 r z (unmet_at hr2 nb hz nb2 m) u _ (sA.trans (same_new hu)) (sA.free hu) upd_same
      · rintro σ H4 ⟨s4, _, nb2, v6, rfl⟩
        rw [List.take_length] at nb2
        refine ⟨s4, fun q hq => ?_, _, _, _, rfl⟩
        rw [List.take_add_one, hr2] at hq
        rcases List.mem_append.mp hq with hq | hq
        · exact nb q hq
        · rw [List.mem_singleton.mp hq]
          exact nb2
    · rintro σ H' ⟨s2, nb, v4, v5, v6, rfl⟩
      rw [l1, List.take_length] at nb
      exact k1 (unmet_no nb) _ ((s0.trans s1).trans s2)
end
end Yd
namespace Yd
open PySem L2
/-! ### offers taken: the kinds with a door more -/
abbrev Of := Str × Str × Str
/-- one offer taken -/
def give (k : KD) (o : Of) : KD := if o.1 = k.nm then { k with ng := k.ng.modify (k.ss.idxOf o.2.1) fun p => (p.1, addOnce p.2 o.2.2) } else k
/-- offers taken one by one -/
def taken (os : List Of) (k : KD) : KD := os.foldl give k
theorem give_same (k : KD) (o : Of) : (give k o).nm = k.nm ∧ (give k o).one = k.one ∧ (give k o).ss = k.ss ∧ (give k o).st = k.st := by
  unfold give
  split <;> exact ⟨rfl, rfl, rfl, rfl⟩
theorem taken_same : ∀ (os : List Of) (k : KD), (taken os k).nm = k.nm ∧ (taken os k).one = k.one ∧ (taken os k).ss = k.ss ∧ (taken os k).st = k.st
  | [], _ => ⟨rfl, rfl, rfl, rfl⟩
  | o :: os, k => by
    obtain ⟨a, b, c, d⟩ := taken_same os (give k o)
    obtain ⟨a', b', c', d'⟩ := give_same k o
    exact ⟨a.trans a', b.trans b', c.trans c', d.trans d'⟩
theorem taken_more {os : List Of} {i : Nat} {o : Of} (h : os[i]? = some o) (k : KD) : taken (os.take (i + 1)) k = give (taken (os.take i) k) o := by
  unfold taken
  rw [List.take_add_one, h, List.foldl_append]
  rfl
theorem taken_R (os : List Of) (k : KD) : (taken os k).R = k.R := by
  unfold KD.R
  rw [(taken_same os k).2.2.2]
theorem names_taken (os : List Of) (ks : List KD) : (ks.map (taken os)).map (·.nm) = ks.map (·.nm) := by
  rw [List.map_map]
  exact List.map_congr_left fun k _ => (taken_same os k).1
theorem addOnce_mem {xs : List Str} {x y : Str} (h : y ∈ addOnce xs x) : y ∈ xs ∨ y = x := by
  unfold addOnce at h
  split at h
  · exact .inl h
  · exact (List.mem_append.mp h).imp id List.mem_singleton.mp
theorem addOnce_nd {xs : List Str} {x : Str} (h : xs.Nodup) : (addOnce xs x).Nodup := by
  unfold addOnce
  split
  · exact h
  · next n => exact nd_snoc h n
theorem addOnce_len (xs : List Str) (x : Str) : (addOnce xs x).length ≤ xs.length + 1 := by
  unfold addOnce
  split
  · exact Nat.le_succ _
  · rw [List.length_append]; exact Nat.le_refl _
theorem once_snoc {xs : List Str} (h : xs.Nodup) (x : Str) : onceS (xs ++ [x]) = addOnce xs x := by
  have e := once_id h
  unfold onceS at e ⊢
  rw [List.foldl_append, e]
  rfl
/-- what is known of the pairs of needs and doors -/
theorem give_ng {k : KD} {o : Of} {q : List Str × List Str} (h : q ∈ (give k o).ng) : q ∈ k.ng ∨ ∃ p ∈ k.ng, q = (p.1, addOnce p.2 o.2.2) := by
  unfold give at h
  split at h
  · obtain ⟨i, hi⟩ := List.mem_iff_getElem?.mp h
    have hi : (k.ng.modify (k.ss.idxOf o.2.1) fun p => (p.1, addOnce p.2 o.2.2))[i]? = some q := hi
    rw [List.getElem?_modify] at hi
    obtain ⟨p, hp, e⟩ := Option.map_eq_some_iff.mp hi
    split at e
    · exact .inr ⟨p, List.mem_of_getElem? hp, e.symm⟩
    · exact .inl (by rw [← e]; exact List.mem_of_getElem? hp)
  · exact .inl h
theorem give_ln (k : KD) (o : Of) : (give k o).ng.length = k.ng.length := by
  unfold give
  split
  · exact List.length_modify ..
  · rfl
theorem taken_ln : ∀ (os : List Of) (k : KD), (taken os k).ng.length = k.ng.length
  | [], _ => rfl
  | o :: os, k => (taken_ln os (give k o)).trans (give_ln k o)
theorem taken_ok : ∀ {os : List Of} {k : KD}, (∀ q ∈ k.ng, q.1.Nodup ∧ q.2.Nodup) → ∀ {m1 m2 : Nat}, (∀ q ∈ k.ng, q.1.length ≤ m1 ∧ q.2.length ≤ m2) → ∀ q ∈ (taken os k).ng, q.1.Nodup ∧ q.2.Nodup ∧ q.1.length ≤ m1 ∧ q.2.length ≤ m2 + os.length
  | [], k, h, m1, m2, l, q, m => ⟨(h q m).1, (h q m).2, (l q m).1, (l q m).2⟩
  | o :: os, k, h, m1, m2, l, q, m => by
    have h' : ∀ q ∈ (give k o).ng, q.1.Nodup ∧ q.2.Nodup := fun q hq => by
      rcases give_ng hq with r | ⟨p, hp, rfl⟩
      · exact h q r
      · exact ⟨(h p hp).1, addOnce_nd (h p hp).2⟩
    have l' : ∀ q ∈ (give k o).ng, q.1.length ≤ m1 ∧ q.2.length ≤ m2 + 1 := fun q hq => by
      rcases give_ng hq with r | ⟨p, hp, rfl⟩
      · exact ⟨(l q r).1, Nat.le_succ_of_le (l q r).2⟩
      · exact ⟨(l p hp).1, Nat.le_trans (addOnce_len _ _) (Nat.succ_le_succ (l p hp).2)⟩
    obtain ⟨a, b, c, d⟩ := taken_ok (os := os) h' l' q m
    exact ⟨a, b, c, by rw [List.length_cons]; omega⟩
theorem taken_dn : ∀ {os : List Of} {k : KD} {p : Str → Prop}, (∀ q ∈ k.ng, (∀ d ∈ q.1, p d) ∧ ∀ d ∈ q.2, p d) → (∀ o ∈ os, p o.2.2) → ∀ q ∈ (taken os k).ng, (∀ d ∈ q.1, p d) ∧ ∀ d ∈ q.2, p d
  | [], k, p, h, _, q, m => h q m
  | o :: os, k, p, h, ho, q, m => by
    refine taken_dn (os := os) (k := give k o) (p := p) (fun q hq => ?_) (fun x hx => ho x (List.mem_cons_of_mem _ hx)) q m
    rcases give_ng hq with r | ⟨p', hp, rfl⟩
    · exact h q r
    · refine ⟨(h p' hp).1, fun d hd => ?_⟩
      rcases addOnce_mem hd with r | rfl
      · exact (h p' hp).2 d r
      · exact ho o (List.mem_cons_self ..)
/-- the names that are known -/
def OkOf (ks : List KD) (o : Of) : Prop := ∃ k ∈ ks, k.nm = o.1 ∧ o.2.1 ∈ k.ss
theorem taken_fit {os : List Of} {k : KD} (h : KdFit k) (l : ∀ q ∈ k.ng, q.2.length ≤ 100) (ol : os.length ≤ 20) : KdFit (taken os k) := by
  obtain ⟨a, b, c, d⟩ := taken_same os k
  have q := taken_ok (os := os) (fun q hq => ⟨(h.gd.nd q hq).1, (h.gd.nd q hq).2.1⟩) (m1 := 1000) (m2 := 100) fun q hq => ⟨(h.gd.nd q hq).2.2.1, l q hq⟩
  refine ⟨by rw [c]; exact h.s0, by rw [c]; exact h.s10, by rw [c]; exact h.sl, ⟨by rw [c, taken_R]; exact h.gd.st, fun p hp => ?_⟩, by rw [a]; exact h.nl⟩
  obtain ⟨x, y, z, w⟩ := q p hp
  exact ⟨x, y, z, by omega⟩
theorem taken_kd {os : List Of} {k : KD} (h : KdOk k) (sm : Sm k) (ol : os.length ≤ 3) (dn : ∀ o ∈ os, ∃ j, j < 12 ∧ NameK j o.2.2) : KdOk (taken os k) := by
  obtain ⟨a, b, c, d⟩ := taken_same os k
  have q := taken_ok (os := os) (fun q hq => ⟨(h.ng q hq).1, (h.ng q hq).2.1⟩) (m1 := 5) (m2 := 5) fun q hq => sm q hq
  refine ⟨by rw [c]; exact h.s0, by rw [c]; exact h.s5, by rw [c]; exact h.sn, by rw [c, d]; exact h.st, by rw [d]; exact h.stl, by rw [c, taken_ln]; exact h.ln, fun p hp => ?_, taken_dn h.dn dn⟩
  obtain ⟨x, y, z, w⟩ := q p hp
  exact ⟨x, y, by omega, by omega⟩
theorem taken_kds {os : List Of} {ks : List KD} (h : KdsOk ks) (sm : ∀ k ∈ ks, Sm k) (ol : os.length ≤ 3) (dn : ∀ o ∈ os, ∃ j, j < 12 ∧ NameK j o.2.2) : KdsOk (ks.map (taken os)) := by
  refine ⟨fun k hk => ?_, fun i k hk => ?_⟩
  · obtain ⟨k0, m, rfl⟩ := List.mem_map.mp hk
    exact taken_kd (h.ok k0 m) (sm k0 m) ol dn
  · rw [List.getElem?_map] at hk
    obtain ⟨k0, e, rfl⟩ := Option.map_eq_some_iff.mp hk
    rw [(taken_same os k0).1]
    exact h.nm i k0 e
end Yd
namespace Yd
open PySem L2
/-! ### the class Site: offers taken -/
theorem idx_nd : ∀ {ss : List Str} {j : Nat} {s : Str}, ss.Nodup → ss[j]? = some s → ss.idxOf s = j
  | [], _, _, _, h => by simp at h
  | a :: ss, 0, s, _, h => by
    cases h
    exact List.idxOf_cons_self
  | a :: ss, j + 1, s, nd, h => by
    have hs : ss[j]? = some s := by simpa using h
    have ne : a ≠ s := fun e => (List.nodup_cons.mp nd).1 (e ▸ List.mem_of_getElem? hs)
    have eb : (a == s) = false := by simpa using ne
    rw [List.idxOf_cons, eb, cond_false, idx_nd (List.nodup_cons.mp nd).2 hs]
theorem give_at {k : KD} {o : Of} {j : Nat} {p : List Str × List Str} (nd : k.ss.Nodup) (en : k.nm = o.1) (hj : k.ss[j]? = some o.2.1) (hp : k.ng[j]? = some p) : give k o = { k with ng := k.ng.set j (p.1, addOnce p.2 o.2.2) } := by
  unfold give
  rw [if_pos en.symm, idx_nd nd hj]
  congr 1
  refine List.ext_getElem? fun i => ?_
  rw [List.getElem?_modify]
  by_cases e : j = i
  · subst e
    rw [List.getElem?_set_self (List.getElem?_eq_some_iff.mp hp).1, hp]
    simp
  · rw [List.getElem?_set_ne e]
    cases k.ng[i]? with
    | none => rfl
    | some q => simp [e]
theorem give_map {ks : List KD} {o : Of} {i : Nat} {k : KD} (nd : (ks.map (·.nm)).Nodup) (hk : ks[i]? = some k) (en : k.nm = o.1) : ks.map (fun q => give q o) = ks.set i (give k o) := by
  refine List.ext_getElem? fun j => ?_
  rw [List.getElem?_map]
  by_cases e : i = j
  · subst e
    rw [List.getElem?_set_self (List.getElem?_eq_some_iff.mp hk).1, hk]
    rfl
  · rw [List.getElem?_set_ne e]
    cases h : ks[j]? with
    | none => rfl
    | some q =>
      show some (give q o) = some q
      have ne : o.1 ≠ q.nm := fun z => e (nd_ix nd (x := k.nm) (by rw [List.getElem?_map, hk]; rfl) (by rw [List.getElem?_map, h, en, z]; rfl))
      unfold give
      rw [if_neg ne]
theorem set_mem {α : Type} {y z : α} : ∀ {xs : List α} {i : Nat}, y ∈ xs.set i z → y ∈ xs ∨ y = z
  | [], _, h => nomatch h
  | a :: xs, 0, h => (List.mem_cons.mp h).elim .inr fun m => .inl (List.mem_cons_of_mem _ m)
  | a :: xs, i + 1, h => (List.mem_cons.mp h).elim (fun e => .inl (e ▸ List.mem_cons_self ..)) fun m => (set_mem (i := i) m).imp (List.mem_cons_of_mem _) id
theorem PartsAt.put {H H' : Hp} {n : Kn} {z : PX} {k : KD} {ts' : List Addr} {ng' : List (List Str × List Str)} (g : Gro z.dd H H') (hd : ∃ kvs, H z.dd = some (.dK kvs)) (D : DoorsAt H' z.dd k.ss ts' ng') :
    ∀ {xs : List PX} {ks : List KD} {i : Nat}, PartsAt H n xs ks → xs[i]? = some z → ks[i]? = some k → PartsAt H' n (xs.set i { z with ts := ts' }) (ks.set i { k with ng := ng' })
  | [], _, _, _, h, _ => by simp at h
  | _ :: _, [], _, _, _, h => by simp at h
  | x :: xs, q :: ks, 0, ⟨h, d, r⟩, hx, hk => by
    cases hx
    cases hk
    refine ⟨⟨h.pa.put g D, h.m⟩, d, PartsAt.off g hd r fun y hy => d z.dd ?_ y hy⟩
    exact List.mem_cons_of_mem _ (List.mem_cons_self ..)
  | x :: xs, q :: ks, i + 1, ⟨h, d, r⟩, hx, hk => by
    have hx' : xs[i]? = some z := by simpa using hx
    have hk' : ks[i]? = some k := by simpa using hk
    have mz : z ∈ xs := List.mem_of_getElem? hx'
    have zf : z.dd ∈ z.fp := List.mem_cons_of_mem _ (List.mem_cons_self ..)
    have nz : z.dd ∉ x.fp := fun m => d _ m z mz zf
    have nz' := nz
    unfold PX.fp at nz'
    simp only [List.mem_cons, not_or] at nz'
    refine ⟨⟨h.pa.off g hd nz'.1 nz'.2.1 nz'.2.2, h.m⟩, fun b hb y hy => ?_, PartsAt.put g hd D r hx' hk'⟩
    rcases set_mem hy with m | rfl
    · exact d b hb y m
    · exact d b hb z mz
/-- what is locked may change, parts stay -/
theorem PartAt.keepF {H H' : Hp} {n : Kn} {x : PX} {k : KD} (h : PartAt H n x k) (s : ∀ b o, H b = some o → (∀ od u, o ≠ .frz od u) → H' b = some o) : PartAt H' n x k :=
  have p := h.pa
  ⟨⟨s _ _ p.at_ (fun _ _ e => by cases e), p.S.keep fun b kvs e => s _ _ e (fun _ _ e => by cases e), p.D.keepT (s _ _ p.D.d (fun _ _ e => by cases e)) fun b xs e => s _ _ e (fun _ _ e => by cases e), p.n1, p.n2⟩, h.m⟩
theorem PartsAt.keepF {H H' : Hp} {n : Kn} (s : ∀ b o, H b = some o → (∀ od u, o ≠ .frz od u) → H' b = some o) : ∀ {xs : List PX} {ks : List KD}, PartsAt H n xs ks → PartsAt H' n xs ks
  | [], [], _ => True.intro
  | _ :: _, _ :: _, ⟨h, d, r⟩ => ⟨h.keepF s, d, PartsAt.keepF s r⟩
  | [], _ :: _, h => h.elim
  | _ :: _, [], h => h.elim
theorem set_as {xs : List PX} {i : Nat} {z : PX} {ts' : List Addr} (h : xs[i]? = some z) : (xs.set i { z with ts := ts' }).map (·.a) = xs.map (·.a) := by
  refine List.ext_getElem? fun j => ?_
  rw [List.getElem?_map, List.getElem?_map]
  by_cases e : i = j
  · subst e
    rw [List.getElem?_set_self (List.getElem?_eq_some_iff.mp h).1, h]
    rfl
  · rw [List.getElem?_set_ne e]
theorem dP_vals : ∀ {ss : List Str} {es : List Addr}, ss.length = es.length → (dP ss es).map (·.2) = es.map V.ref
  | [], [], _ => rfl
  | _ :: _, _ :: _, h => by rw [dP_cons, List.map_cons, List.map_cons, dP_vals (by simpa using h)]
/-- tuples of three texts -/
def OfsAt (H : Hp) (ys : List V) (os : List Of) : Prop := ys.length = os.length ∧ ∀ (i : Nat) (y : V) (o : Of), ys[i]? = some y → os[i]? = some o → ∃ t, y = .ref t ∧ H t = some (.tup [.str o.1, .str o.2.1, .str o.2.2])
theorem OfsAt.keep {H H' : Hp} {ys : List V} {os : List Of} (h : OfsAt H ys os) (s : ∀ b xs, H b = some (.tup xs) → H' b = some (.tup xs)) : OfsAt H' ys os := ⟨h.1, fun i y o a b => let ⟨t, e, q⟩ := h.2 i y o a b; ⟨t, e, s _ _ q⟩⟩
def spOffered (n : Kn) (CS : Addr) : Sp := fun vs H Q E => ∃ (s : Addr) (d : SD) (xs : List PX) (ks : List KD) (t : Addr) (ys : List V) (os : List Of), vs = [.ref s, .ref t] ∧ SiteAt H n CS s d xs ks ∧ ks.length ≤ 60 ∧ (∀ k ∈ ks, KdFit k) ∧ (∀ k ∈ ks, ∀ q ∈ k.ng, q.2.length ≤ 100) ∧
  H t = some (.tup ys) ∧ OfsAt H ys os ∧ os.length ≤ 20 ∧ (∀ o ∈ os, o.1.length ≤ 100 ∧ o.2.1.length ≤ 100) ∧
  ((∀ o ∈ os, OkOf ks o) → ∀ x d' zs H', Same H H' → H x = none → (∀ b ∈ SD.fp d', H b = none) → (∀ z ∈ zs, ∀ b ∈ PX.fp z, H b = none) → SiteAt H' n CS x d' zs (ks.map (taken os)) → Q (.ref x) H') ∧
  (∀ (i : Nat) (o : Of), os[i]? = some o → (∀ q ∈ os.take i, OkOf ks q) → (∀ k ∈ ks, k.nm ≠ o.1) → Raised n.CU [.str o.1] fsUnknown H E) ∧
  (∀ (i : Nat) (o : Of) (k : KD), os[i]? = some o → (∀ q ∈ os.take i, OkOf ks q) → k ∈ ks → k.nm = o.1 → o.2.1 ∉ k.ss → Raised n.CU [.str o.2.1] fsUnknown H E)
section
variable {P : Program} {w : World} {K : PySem.W.Frag} {mg : Str → Option Value} {base : Heap}
def nOffered : List Str := ["self", "offers", "name", "kind", "kinds", "standing", "door", "needs", "gives"]
theorem scSOffered : FnScope nOffered ["self", "offers"] (defScope sSiteOffered) := ⟨rfl, rfl, rfl, by decide +kernel, rfl, by decide +kernel, by decide +kernel⟩
theorem ok_sOffered {f fI CS : Addr} {fd dI : FuncData} {n : Kn} (F : Fun K "offered" "Site.offered" sSiteOffered f fd)
    (hb : ∀ us rest : List Value, us.length = (["self"] : List Str).length → bindArgs fd ⟨us ++ rest, []⟩ = (newTuple rest >>= fun t => pure ((["self"] : List Str).zip us ++ [(("offers" : Str), t)])))
    (E : KEnv P w K mg base n) (OU : ErrOk P w K mg base "Unknown" n.CU 1 okUnknown fsUnknown) (sc : SCls K CS) (MS : Mk K CS fI) (GI : FnOk P w K mg base (L2.CX P w) 8 fI dI ["self", "kinds"] (spSInit K n)) (bI : Binds K dI ["self", "kinds"] [])
    (gS : mg "Site" = some (.ref CS)) (hL : mg "list" = none) (hLb : bootBuiltins "list" = some (.type "list")) :
    FnR P w K mg base (L2.CX P w) 10 f (fun vs H Q E => ∃ ws rest, vs = ws ++ rest ∧ ws.length = (["self"] : List Str).length ∧ rest.length ≤ sizeLine ∧ ∀ p, H p = none → spOffered n CS (ws ++ [V.ref p]) (upd H p (.tup rest)) Q E) := by
  obtain ⟨oc, odc, kwV, doc, pm, an, cdv, ct, osl, rfl, lk, hcd⟩ := F.ex
  refine StX.fn_star (k := 9) (ps := ["self"]) (pv := "offers") lk hcd scSOffered StX.cxUp hb (fun A outer s H vs Q E' hr h => ?_)
  obtain ⟨s, d, xs, ks, t, ys, os, rfl, st, k60, fit, l100, ht, ho, o20, ol, kQ, kN, kS⟩ := h
  have hu := hu_of hr
  have r2 : Room 2 _ := hr.mono (by decide)
  have r3 : Room 3 _ := hr.mono (by decide)
  have r4 : Room 4 _ := hr.mono (by decide)
  have r7 : Room 7 _ := hr.mono (by decide)
  obtain ⟨dG, GG, bG⟩ := E.ge
  obtain ⟨dP', GP, bP⟩ := E.pu
  refine ⟨_, pss_cons (ps_lock (ps_setDc (i := 4) (own := [("name", 2), ("kind", 3)]) (g := gTup K 2 (gCons (gName 2) (gCons (gName 3) gNil))) (tt := tYes) (tk := tVar 2) (tv := tDyn P w K mg base 7 "twin" (tVar 3)) rfl scSOffered.nd rfl rfl (sw_trueD rfl rfl rfl (by decide +kernel))
      (pi_items (pe_fld (pv 0) rfl)) (blkOk_by (N := nOffered) (sc := defScope sSiteOffered) (by decide +kernel))
      (fun _ _ _ _ _ => pg_tup (by rfl) (pgs_cons (pg_name (i := 2) scSOffered.nd rfl (Or.inl rfl)) (pgs_cons (pg_name (i := 3) scSOffered.nd rfl (Or.inl rfl)) pgs_nil))) (fun _ _ _ _ _ => pts_nil) (fun _ _ _ _ _ => pv 2) (fun _ _ _ _ _ => pe_dyn (pv 3) r7)))
    (pss_cons (ps_for (passes_of rfl) rfl (pi_tup (pv 1)) (pg_tup (by rfl) (pgs_cons (pg_name (i := 2) scSOffered.nd rfl (Or.inl rfl)) (pgs_cons (pg_name (i := 5) scSOffered.nd rfl (Or.inl rfl)) (pgs_cons (pg_name (i := 6) scSOffered.nd rfl (Or.inl rfl)) pgs_nil))))
      (pss_cons (ps_if (pt_cmp (pc_dnotin hu (pv 2) (pv 4))) (pss_one (ps_raise rfl (takes_of rfl rfl rfl rfl) (pmk_err OU r2 rfl (pa_cons (pv 2) pa_nil)))) pss_nil)
      (pss_cons (ps_set (i := 3) scSOffered.nd rfl (Or.inl rfl) (pe_dget hu (pv 4) (pv 2) (fun _ _ => rfl)))
      (pss_cons (ps_asg (pe_subD (E := E') (CX := L2.CX P w) (pv 3) (pv 5) r4 (passes_call (takes_of rfl rfl rfl rfl) fun _ _ _ _ h => h)) (pg_tup (by rfl) (pgs_cons (pg_name (i := 7) scSOffered.nd rfl (Or.inl rfl)) (pgs_cons (pg_name (i := 8) scSOffered.nd rfl (Or.inl rfl)) pgs_nil))))
      (pss_one (ps_asg (pe_tup (pa_cons (pv 7) (pa_cons (pe_lst (StX.pa_star (pv 8) (pa_cons (pv 6) pa_nil))) pa_nil))) (pg_subD (E := E') (CX := L2.CX P w) (pv 3) (pv 5) r3 (passes_call (takes_of rfl rfl rfl rfl) fun _ _ _ _ h => h))))))))
    (pss_one (ps_ret (pe_make (E := fun _ _ _ => False) MS GI hr (by rfl) gS bI .nil passF (pa_cons (pe_listVals rfl (by rfl) hL hLb (pv 4)) pa_nil))))), ?_⟩
  have lenD : ∀ zs : List PX, zs.length = ks.length → (ks.map (·.nm)).length = (zs.map (·.a)).length := fun zs l => by rw [List.length_map, List.length_map, l]
  obtain ⟨dx, es⟩ := st.ins
  have ed := st.dict
  have xl := st.parts.len
  have yl := lenD xs xl
  have dl : (dP (ks.map (·.nm)) (xs.map (·.a))).length = ks.length := by rw [dP_len yl, List.length_map]
  have nsd : s ≠ d.k := ne_of es ed (fun z => nomatch z)
  -- the twins
  refine ⟨d.k, _, ed, True.intro, fun od => ?_⟩
  have hp0 : PartsAt (upd H d.k (.frz od (.dK (dP (ks.map (·.nm)) (xs.map (·.a)))))) n xs ks := PartsAt.off .own ⟨_, ed⟩ st.parts st.no
  have es0 : upd H d.k (.frz od (.dK (dP (ks.map (·.nm)) (xs.map (·.a))))) s = some (.ins CS dx d.fs) := by rw [upd_ne nsd]; exact es
  have el0 : upd H d.k (.frz od (.dK (dP (ks.map (·.nm)) (xs.map (·.a))))) d.k = _ := upd_same
  have fin0 : ∀ {H2}, Same (upd H d.k (.frz od (.dK (dP (ks.map (·.nm)) (xs.map (·.a)))))) H2 → Same H (upd H2 d.k _) := fun sm => unlock_same ed sm
  have fr0 : ∀ b, upd H d.k (.frz od (.dK (dP (ks.map (·.nm)) (xs.map (·.a))))) b = none → H b = none := fun b e => by
    by_cases q : b = d.k
    · rw [q, upd_same] at e; cases e
    · rw [upd_ne q] at e; exact e
  generalize upd H d.k (.frz od (.dK (dP (ks.map (·.nm)) (xs.map (·.a))))) = Hf at hp0 es0 el0 fin0 fr0 ⊢
  refine ⟨_, rfl, s, CS, dx, _, _, rfl, es0, sc.cls, sc.nK, rfl, d.k, od, _, rfl, el0, fun D hD => ?_⟩
  refine dc_run (n := ks.length) (fun i H2 => Same Hf H2 ∧ ∃ zs : List PX, H2 D = some (.dK (dP ((ks.take i).map (·.nm)) (zs.map (·.a)))) ∧ PartsAt H2 n zs (ks.take i) ∧ (∀ z ∈ zs, ∀ b ∈ z.fp, Hf b = none) ∧ ∀ z ∈ zs, D ∉ z.fp)
    ⟨same_new hD, [], upd_same, True.intro, fun _ m => (nomatch m), fun _ m => (nomatch m)⟩ (fun i H2 hi h => ⟨h.1 _ _ el0, by rw [dl]; exact hi⟩) (fun H2 h => ⟨h.1 _ _ el0, by rw [dl]; exact Nat.le_refl _⟩) ?_ ?_
  · rintro i y H2 H3 hi ⟨s1, zs, e1, pz, fr, nod⟩ ⟨T, kk, v, hkv, rfl, hT, rfl⟩
    obtain ⟨x, kd, hx, hk, rfl, rfl⟩ := dP_part yl hkv
    obtain ⟨x', ex, px⟩ := hp0.get hk
    rw [hx] at ex
    cases ex
    have ft := fit kd (List.mem_of_getElem? hk)
    obtain ⟨fR, fW, dW, pk, mW, GW, bW⟩ := (E.c kd.one).ex
    have s2 := same_new (o := .tup [kV (Sum.inr kd.nm), .ref x.a]) hT
    have eT : upd H2 T (.tup [kV (Sum.inr kd.nm), .ref x.a]) T = _ := upd_same
    have e1' := s2 _ _ e1
    have pz' := pz.keep s2
    have s12 := s1.trans s2
    generalize upd H2 T (.tup [kV (Sum.inr kd.nm), .ref x.a]) = H3 at s2 eT e1' pz' s12 ⊢
    have p3 := px.keep s12
    refine ⟨T, _, rfl, SqT.of eT, rfl, _, _, rfl, _, _, rfl, rfl, rfl, _, rfl, _, rfl, x.a, _, x.dx, _, fW, dW, _, rfl, p3.pa.at_, fs_no _ _ _ (by decide +kernel) (by decide +kernel) (by decide +kernel), pk.k.cls, mW, GW, bW, x.a, x.dx, kd.nm, x.ds, x.dd, kd.ss, x.es, x.ts, kd.R, x.m, kd.ng, rfl, p3.pa, pk, ft.gd, ft.s0, ft.s10, ft.sl,
      fun a2 dx2 ds2 dd2 es2 ts2 m2 H4 q7 y1 y2 y3 y4 pb hm2 => ?_⟩
    have zl : ((ks.take i).map (·.nm)).length = (zs.map (·.a)).length := by rw [List.length_map, List.length_map, pz.len]
    have hm : kd.nm ∉ (ks.take i).map (·.nm) := names_no st.nd hk
    have e4 := q7 _ _ e1'
    have gd : Gro D H4 (upd H4 D (.dK (putK (dP ((ks.take i).map (·.nm)) (zs.map (·.a))) (Sum.inr kd.nm) (.ref a2)))) := .own
    have yfp : ∀ b ∈ ds2 :: dd2 :: es2, H3 b = none := fun b hb => by
      rcases List.mem_cons.mp hb with rfl | hb
      · exact y2
      · rcases List.mem_cons.mp hb with rfl | hb
        · exact y3
        · exact y4 b hb
    have dno : ∀ b ∈ ds2 :: dd2 :: es2, D ≠ b := fun b hb q => by
      have z := yfp b hb
      rw [← q, e1'] at z
      cases z
    have nod' : ∀ y ∈ zs ++ [(⟨a2, dx2, ds2, dd2, es2, ts2, m2⟩ : PX)], D ∉ y.fp := fun y hy hb => by
      rcases List.mem_append.mp hy with hy | hy
      · exact nod y hy hb
      · rw [List.mem_singleton.mp hy] at hb
        exact dno D hb rfl
    refine ⟨_, Sum.inr kd.nm, rfl, e4, small1000 (by rw [dP_len zl, List.length_map, List.length_take]; omega), fun b o e => by rw [upd_ne (ne_of_none e hD)]; exact q7 _ _ (s12 b o e), zs ++ [⟨a2, dx2, ds2, dd2, es2, ts2, m2⟩], ?_, ?_, fun y hy b hb => ?_, nod'⟩
    · rw [upd_same, takeK hk, List.map_append, List.map_append]
      show some (HO.dK _) = some (HO.dK (dP (_ ++ [kd.nm]) (_ ++ [a2])))
      rw [dP_snoc zl, putK_new _ (dP_none hm)]
    · refine PartsAt.off gd ⟨_, e4⟩ ?_ nod'
      rw [takeK hk]
      refine PartsAt.snoc ⟨pb, hm2⟩ (pz'.keep q7) fun y hy b hb hb' => ?_
      obtain ⟨o, e⟩ := pz'.tracked y hy b hb
      rw [yfp b hb'] at e
      cases e
    · rcases List.mem_append.mp hy with hy | hy
      · exact fr y hy b hb
      · rw [List.mem_singleton.mp hy] at hb
        exact s12.free (yfp b hb)
  rintro H9 ⟨s1, zs, e1, pz, fr, nod⟩
  rw [List.take_length] at e1 pz
  have nDd : D ≠ d.k := fun q => by rw [q, el0] at hD; cases hD
  refine ⟨s1 _ _ el0, ?_⟩
  have s2 := fin0 s1
  have zl0 := pz.len
  have gl : Gro d.k H9 (upd H9 d.k (.dK (dP (ks.map (·.nm)) (xs.map (·.a))))) := .own
  have e2 : upd H9 d.k (.dK (dP (ks.map (·.nm)) (xs.map (·.a)))) D = some (.dK (dP (ks.map (·.nm)) (zs.map (·.a)))) := by rw [upd_ne nDd]; exact e1
  have nfz : ∀ z ∈ zs, d.k ∉ z.fp := fun z hz hb => by
    have q := fr z hz _ hb
    rw [el0] at q
    cases q
  have pz2 : PartsAt (upd H9 d.k (.dK (dP (ks.map (·.nm)) (xs.map (·.a))))) n zs ks := pz.keepF fun b o e nf => by
    rw [upd_ne (fun q => ?_)]
    · exact e
    · rw [q, s1 _ _ el0] at e
      exact nf _ _ (Option.some.inj e).symm
  have fr2 : ∀ z ∈ zs, ∀ b ∈ z.fp, H b = none := fun z hz b hb => fr0 b (fr z hz b hb)
  have hDn := fr0 D hD
  generalize upd H9 d.k (.dK (dP (ks.map (·.nm)) (xs.map (·.a)))) = H0 at s2 e2 pz2 ⊢
  have yl2 := lenD zs zl0
  have nds := st.nd
  have ht0 := s2 _ _ ht
  have st0 := st.keep s2
  have ho0 := ho.keep fun b xs e => s2 _ _ e
  have hl := ho.1
  -- the offers
  refine ⟨_, rfl, t, rfl, ⟨_, SqT.of ht0⟩, for_run (n := ys.length) (fun i σ H' => Same H H' ∧ (∀ q ∈ os.take i, OkOf ks q) ∧ ∃ (us : List PX) (v2 v3 v5 v6 v7 v8 : Option V), us.map (·.a) = zs.map (·.a) ∧ PartsAt H' n us (ks.map (taken (os.take i))) ∧ (∀ z ∈ us, ∀ b ∈ z.fp, H b = none) ∧ (∀ z ∈ us, D ∉ z.fp) ∧
      H' D = some (.dK (dP (ks.map (·.nm)) (zs.map (·.a)))) ∧ σ = [some (.ref s), some (.ref t), v2, v3, some (.ref D), v5, v6, v7, v8])
    ⟨s2, fun _ m => (nomatch m), zs, _, _, _, _, _, _, rfl, by rw [show ks.map (taken (os.take 0)) = ks from (List.map_congr_left fun k _ => rfl).trans (List.map_id' ks)]; exact pz2, fr2, nod, e2, rfl⟩
    (fun i σ H' hi z => ⟨_, ys[i], SqT.of (z.1 _ _ ht), List.getElem?_eq_getElem hi⟩) (fun σ H' z => ⟨_, SqT.of (z.1 _ _ ht), Nat.le_refl _⟩) ?_ ?_⟩
  · rintro i y σ H' H1 hi ⟨s3, okb, us, v2, v3, v5, v6, v7, v8, ea, pu, fru, nou, eD, rfl⟩ ⟨rfl, gy⟩
    have hy := gy _ (SqT.of (s3 _ _ ht))
    obtain ⟨o, hoi⟩ : ∃ o, os[i]? = some o := ⟨_, List.getElem?_eq_getElem (by omega)⟩
    obtain ⟨t1, rfl, ht1⟩ := ho.2 i _ o hy hoi
    have ht1 := s3 _ _ ht1
    obtain ⟨ol1, ol2⟩ := ol o (List.mem_of_getElem? hoi)
    refine ⟨t1, _, rfl, SqT.of ht1, rfl, _, _, rfl, _, _, rfl, _, _, rfl, rfl, ?_⟩
    refine ⟨_, rfl, _, rfl, D, _, rfl, DGet.k (k := Sum.inr o.1) eD, _, rfl, ?_⟩
    rw [dP_is nds yl2]
    by_cases hm : o.1 ∈ ks.map (·.nm)
    · rw [decide_eq_true hm]
      obtain ⟨j, hj⟩ := List.mem_iff_getElem?.mp hm
      have hj0 := hj
      rw [List.getElem?_map] at hj
      obtain ⟨kd, hk, en⟩ := Option.map_eq_some_iff.mp hj
      have mk := List.mem_of_getElem? hk
      obtain ⟨x, hx, px⟩ := pu.get (i := j) (k := taken (os.take i) kd) (by rw [List.getElem?_map, hk]; rfl)
      obtain ⟨tn, to, tss, tst⟩ := taken_same (os.take i) kd
      have ft := fit kd mk
      obtain ⟨fR, fW, dW, pk, mW, GW, bW⟩ := (E.c (taken (os.take i) kd).one).ex
      have dg : DGet H1 D (.str o.1) (some (.ref x.a)) := .inl ⟨_, Sum.inr o.1, .of eD, rfl, (dP_some nds hj0 (by rw [← ea, List.getElem?_map, hx]; rfl)).symm⟩
      refine no rfl ⟨_, rfl, _, rfl, D, _, rfl, dg, _, rfl, _, rfl, x.a, _, x.dx, _, n.I, dG, _, _, rfl, px.pa.at_, pk.d.gi, GG, bG, x.a, _, _, _, o.2.1, rfl, pk.d.cls, pk.d.nD, px.pa.door.rd, ol2, fun hn e H2 s4 he hx => ?_, fun j2 p tt nn g hj2 hp htt hnn hg => ?_⟩
      · rw [tss] at hn
        exact kS i o kd hoi okb mk en hn e H2 (s3.trans s4) (s3.free he) hx
      · have mp := List.mem_of_getElem? hp
        have tok := taken_ok (os := os.take i) (fun q hq => ⟨(ft.gd.nd q hq).1, (ft.gd.nd q hq).2.1⟩) (m1 := 1000) (m2 := 100) (fun q hq => ⟨(ft.gd.nd q hq).2.2.1, l100 kd mk q hq⟩) p mp
        have lt20 : (os.take i).length ≤ 20 := by rw [List.length_take]; omega
        obtain ⟨nd1, nd2, pl1, pl2⟩ := tok
        refine ⟨tt, _, rfl, SqT.of htt, rfl, _, _, rfl, _, _, rfl, rfl, ?_⟩
        refine ⟨_, rfl, _, rfl, g, _, rfl, .inl (SqT.of hg), _, rfl, ?_⟩
        have pl : (p.2 ++ [o.2.2]).length ≤ 200 := by rw [List.length_append, List.length_singleton]; omega
        refine ⟨by rw [show p.2.map V.str ++ [V.str o.2.2] = (p.2 ++ [o.2.2]).map V.str by rw [List.map_append]; rfl, List.length_map]; exact Nat.le_of_lt (small1000 (by omega)), fun l hl => ⟨(by show 2 ≤ sizeLine; decide), fun t2 ht2 => ?_⟩⟩
        have eL : p.2.map V.str ++ [V.str o.2.2] = (p.2 ++ [o.2.2]).map V.str := by rw [List.map_append]; rfl
        have sl := same_new (o := .lst (p.2.map V.str ++ [V.str o.2.2])) hl
        have el : upd H1 l (.lst (p.2.map V.str ++ [V.str o.2.2])) l = some (.lst ((p.2 ++ [o.2.2]).map V.str)) := by rw [upd_same, eL]
        generalize upd H1 l (.lst (p.2.map V.str ++ [V.str o.2.2])) = H2 at sl el ht2 ⊢
        have st2 := same_new (o := .tup [.ref nn, .ref l]) ht2
        have et2 : upd H2 t2 (.tup [.ref nn, .ref l]) t2 = some (.tup [.ref nn, .ref l]) := upd_same
        have el2 := st2 _ _ el
        have s14 := sl.trans st2
        generalize upd H2 t2 (.tup [.ref nn, .ref l]) = H3 at st2 et2 el2 s14 ⊢
        have p3 := px.keep s14
        have sl10 := ft.s10
        refine ⟨_, rfl, _, rfl, x.a, _, x.dx, _, n.P, dP', _, _, rfl, p3.pa.at_, pk.d.pi, GP, bP, x.a, _, x.dx, _, x.dd, x.ts, _, _, o.2.1, t2, nn, l, p.1, p.2 ++ [o.2.2], rfl, pk.d.cls, pk.d.nD, p3.pa.at_, fs_doors _ _ _, p3.pa.D, ol2, et2, .inr (SqT.of (s14 _ _ hnn)), .inl (SqL.of el2), by omega, by omega, by rw [tss]; omega,
          fun hn => absurd (List.mem_of_getElem? hj2) hn, fun j3 h3 ts' H8 g8 D8 => ?_⟩
        have ej := nd_ix p3.pa.S.nd h3 hj2
        subst ej
        rw [once_id nd1, once_snoc nd2] at D8
        have pu3 := pu.keep s14
        have eD3 := s14 _ _ eD
        have nDx : D ≠ x.dd := fun q => nou x (List.mem_of_getElem? hx) (by rw [q]; exact List.mem_cons_of_mem _ (List.mem_cons_self ..))
        have s13 := s3.trans s14
        have nHd : H x.dd = none := fru x (List.mem_of_getElem? hx) _ (List.mem_cons_of_mem _ (List.mem_cons_self ..))
        have kk : (ks.map (taken (os.take i)))[j]? = some (taken (os.take i) kd) := by rw [List.getElem?_map, hk]; rfl
        have put := pu3.put g8 ⟨_, p3.pa.D.d⟩ D8 hx kk
        have em : ks.map (taken (os.take (i + 1))) = (ks.map (taken (os.take i))).set j { taken (os.take i) kd with ng := (taken (os.take i) kd).ng.set j3 (p.1, addOnce p.2 o.2.2) } := by
          rw [← give_at (by rw [tss]; exact st.parts.ssnd kd mk) (tn.trans en) h3 hp, ← give_map (by rw [names_taken]; exact nds) kk (tn.trans en), List.map_map]
          exact List.map_congr_left fun k _ => taken_more hoi k
        refine ⟨fun b q e => g8 b q (s13 b q e) (fun z => ?_), fun q hq => ?_, us.set j { x with ts := ts' }, _, _, _, _, _, _, by rw [set_as hx]; exact ea, by rw [em]; exact put, fun z hz b hb => ?_, fun z hz => ?_, g8 _ _ eD3 nDx, rfl⟩
        · rw [z, nHd] at e
          cases e
        · rw [List.take_add_one, hoi] at hq
          rcases List.mem_append.mp hq with m | m
          · exact okb q m
          · rw [List.mem_singleton.mp m]
            exact ⟨kd, mk, en, by rw [← tss]; exact List.mem_of_getElem? h3⟩
        · rcases set_mem hz with m | rfl
          · exact fru z m b hb
          · exact fru x (List.mem_of_getElem? hx) b hb
        · rcases set_mem hz with m | rfl
          · exact nou z m
          · exact nou x (List.mem_of_getElem? hx)
    · rw [decide_eq_false hm]
      refine yes rfl ⟨_, rfl, err_read rfl (by decide) ⟨_, rfl, ol1⟩ fun e H2 s4 he hx => ?_⟩
      exact kN i o hoi okb (fun k hk e => hm (e ▸ List.mem_map_of_mem hk)) e H2 (s3.trans s4) (s3.free he) hx
  · rintro σ H' ⟨s3, okb, us, v2, v3, v5, v6, v7, v8, ea, pu, fru, nou, eD, rfl⟩
    rw [hl, List.take_length] at okb pu
    have lu := pu.len
    rw [List.length_map] at lu
    refine ⟨_, rfl, D, _, rfl, .inl eD, fun q hq => ?_⟩
    have lzs : (ks.map (·.nm)).length = (zs.map (·.a)).length := yl2
    have ev : (dP (ks.map (·.nm)) (zs.map (·.a))).map (·.2) = refsP us := by rw [dP_vals lzs, ← ea]; unfold refsP; rw [List.map_map]; rfl
    have sq := same_new (o := .lst ((dP (ks.map (·.nm)) (zs.map (·.a))).map (·.2))) hq
    have eq : upd H' q (.lst ((dP (ks.map (·.nm)) (zs.map (·.a))).map (·.2))) q = some (.lst (refsP us)) := by rw [upd_same, ev]
    generalize upd H' q (.lst ((dP (ks.map (·.nm)) (zs.map (·.a))).map (·.2))) = H2 at sq eq ⊢
    refine site_new (Q := fun x H2 => Q (.ref x) H2) sc (SqL.of eq) (pu.keep sq).each (fun k hk => ?_) (by rw [List.length_map]; exact k60) (by rw [names_taken]; exact nds) fun x d' ws H3 s4 nx nd' fr4 st4 => ?_
    · obtain ⟨k0, m0, rfl⟩ := List.mem_map.mp hk
      exact taken_fit (fit k0 m0) (l100 k0 m0) o20
    · have s34 := s3.trans sq
      exact kQ okb x d' ws H3 (s34.trans s4) (s34.free nx) (fun b hb => s34.free (nd' b hb)) (fun z hz b hb => s34.free (fr4 z hz b hb)) st4
end
end Yd
namespace Yd
open PySem L2
theorem big1000 {n : Nat} (h : n ≤ 1000) : n ≤ sizeLine := Nat.le_trans h (by show 1000 ≤ sizeLine; decide)
/-! ### the law's words: the first unmet need -/
def spLUnmet (K : PySem.W.Frag) : Sp := fun vs H Q _ => ∃ (kl pl hl : Addr) (as : List KA) (ks : List KD) (ps : List Str) (hs : List Pr), vs = [.ref kl, .ref pl, .ref hl] ∧ H kl = some (.lst (refsK as)) ∧ KdsAt H as ks ∧ KdsOk ks ∧ ks.length ≤ 11 ∧ SqT K H pl (ps.map V.str) ∧ ps.length = (singlesN ks).length ∧ ListP K H hl hs ∧
  (unmetL (lawRows ks ps hs) = none → ∀ H', Same H H' → Q .non H') ∧ (∀ r z, unmetL (lawRows ks ps hs) = some (r, z) → r ∈ lawRows ks ps hs → z ∈ r.2.1 → ∀ q H', Same H H' → H q = none → H' q = some (.tup [.str r.1.1, .str r.1.2, .str z]) → Q (.ref q) H')
section
variable {P : Program} {w : World} {K : PySem.W.Frag} {mg : Str → Option Value} {base : Heap}
def nLUnmet : List Str := ["_law_kinds_here", "_law_places_here", "_law_held", "_law_rows", "_law_doors", "_law_row", "_law_door"]
theorem scLUnmet : FnScope nLUnmet ["_law_kinds_here", "_law_places_here", "_law_held"] (defScope sUnmet) := ⟨rfl, rfl, rfl, by decide +kernel, rfl, by decide +kernel, by decide +kernel⟩
theorem ok_lUnmet {f fPr : Addr} {fd dPr : FuncData} (F : Fun K "_law_unmet" "_law_unmet" sUnmet f fd) (B : Blt mg)
    (TPr : Fn K mg "_law_present" sPresent ["_law_kinds_here", "_law_places_here", "_law_held"] fPr dPr) : FnOk P w K mg base CX0 2 f fd ["_law_kinds_here", "_law_places_here", "_law_held"] (spLUnmet K) := by
  have GPr : FnOk P w K mg base CX0 1 fPr dPr ["_law_kinds_here", "_law_places_here", "_law_held"] (spLPresent K) := ok_lPresent TPr.F B
  refine F.ok scLUnmet (fun vs H Q E h => ?_) (fun cdv A outer s H vs Q E' hr h => ?_)
  · obtain ⟨kl, pl, hl, as, ks, ps, hs, rfl, _⟩ := h
    rfl
  · obtain ⟨kl, pl, hl, as, ks, ps, hs, rfl, hkl, hks, kok, k11, hpl, pln, hhl, k1, k2⟩ := h
    refine ⟨_, pss_cons (ps_set (i := 3) scLUnmet.nd rfl (Or.inl rfl) (pe_call GPr hr rfl TPr.g TPr.F.kp TPr.b .nil pass0 (pa_cons (pv 0) (pa_cons (pv 1) (pa_cons (pv 2) pa_nil)))))
      (pss_cons (ps_set (i := 4) scLUnmet.nd rfl (Or.inl rfl) (pe_lst pa_nil))
      (pss_cons (ps_for PassesOwn.never rfl (pi_list (pv 3)) (pg_name (i := 5) scLUnmet.nd rfl (Or.inl rfl))
        (pss_one (ps_set (i := 4) scLUnmet.nd rfl (Or.inl rfl) (pe_op op_cat (pv 4) (pe_ix ix_tup (pv 5) pe_int (fun _ _ => rfl))))))
      (pss_cons (ps_for PassesOwn.never rfl (pi_list (pv 3)) (pg_name (i := 5) scLUnmet.nd rfl (Or.inl rfl))
        (pss_one (ps_for PassesOwn.never rfl (pi_list (pe_ix ix_tup (pv 5) pe_int (fun _ _ => rfl))) (pg_name (i := 6) scLUnmet.nd rfl (Or.inl rfl))
          (pss_one (ps_if (pt_cmpR op_notIn_seq (pv 6) (pv 4) rfl) (pss_one (ps_ret (pe_tup (pa_cons (pe_ix ix_tup (pv 5) pe_int (fun _ _ => rfl)) (pa_cons (pe_ix ix_tup (pv 5) pe_int (fun _ _ => rfl)) (pa_cons (pv 6) pa_nil)))))) pss_nil)))))
      (pss_one (ps_ret pe_non))))), ?_⟩
    refine ⟨_, rfl, _, rfl, _, rfl, kl, pl, hl, as, ks, ps, hs, rfl, hkl, hks, kok.ok, k11, hpl, pln, hhl, fun q1 ts H1 s1 _ e1 p1 => ?_⟩
    have lr := rows_cnt110 (ps := ps) (hs := hs) kok k11
    have rok : ∀ r ∈ lawRows ks ps hs, _ := fun r m => rows_ok kok m
    generalize hrs : lawRows ks ps hs = rs at p1 lr rok k1 k2
    have lt := p1.len
    have D550 : ∀ i, (doorsL (rs.take i)).length ≤ 880 := fun i => by
      refine Nat.le_trans (doorsL_len fun r hr => (rok r (List.mem_of_mem_take hr)).2.1) ?_
      rw [List.length_take]
      omega
    refine ⟨(by show 0 ≤ sizeLine; omega), fun D hD => ?_⟩
    have s2 := same_new (o := .lst []) hD
    have eD : upd H1 D (.lst []) D = some (.lst ((doorsL (rs.take 0)).map V.str)) := upd_same
    generalize upd H1 D (.lst []) = H2 at s2 eD ⊢
    have s02 := s1.trans s2
    refine ⟨_, rfl, q1, rfl, ⟨_, SqL.of (s2 _ _ e1)⟩, for_list (K := K) (a := q1) (xs := ts.map V.ref)
      (fun i σ H' => Same H2 H' ∧ ∃ (D : Addr) (v5 : Option V), H' D = some (.lst ((doorsL (rs.take i)).map V.str)) ∧ σ = [some (.ref kl), some (.ref pl), some (.ref hl), some (.ref q1), some (.ref D), v5, none])
      ⟨Same.refl _, D, _, eD, rfl⟩ (fun i σ H' _ h => SqL.of (h.1 _ _ (s2 _ _ e1))) ?_ ?_⟩
    · rintro i x σ H' hi ⟨s3, D3, v5, eD3, rfl⟩
      obtain ⟨t, ht, rfl⟩ : ∃ t, ts[i]? = some t ∧ x = .ref t := by
        rw [List.getElem?_map] at hi
        obtain ⟨t, ht, e⟩ := Option.map_eq_some_iff.mp hi
        exact ⟨t, ht, e.symm⟩
      obtain ⟨r, hr2, nn, gg, f1, f2, er, en, eg⟩ := ((p1.keep s2).keep s3).get ht
      have ro := rok r (List.mem_of_getElem? hr2)
      refine ⟨_, rfl, _, rfl, t, _, 3, _, rfl, rfl, SqT.of er, at_c (j := 3) rfl rfl, D3, gg, _, _, rfl, rfl, eD3, eg, big1000 ?_, fun D4 hD4 => ?_⟩
      · rw [List.length_map, List.length_map]
        have := D550 i
        have := ro.2.1
        omega
      · refine ⟨s3.trans (same_new hD4), D4, _, ?_, rfl⟩
        rw [upd_same, doorsL_more hr2, List.map_append]
    · rintro σ H' ⟨s3, D3, v5, eD3, rfl⟩
      rw [List.length_map, lt, List.take_length] at eD3
      have s03 := s02.trans s3
      have p3 := (p1.keep s2).keep s3
      have e3 := s3 _ _ (s2 _ _ e1)
      refine ⟨_, rfl, q1, rfl, ⟨_, SqL.of e3⟩, for_list (K := K) (a := q1) (xs := ts.map V.ref)
        (fun i σ H4 => Same H' H4 ∧ (∀ r ∈ rs.take i, ∀ y ∈ r.2.1, y ∈ doorsL rs) ∧ ∃ v5 v6 : Option V, σ = [some (.ref kl), some (.ref pl), some (.ref hl), some (.ref q1), some (.ref D3), v5, v6])
        ⟨Same.refl _, fun _ m => (nomatch m), _, _, rfl⟩ (fun i σ H4 _ h => SqL.of (h.1 _ _ e3)) ?_ ?_⟩
      · rintro i x σ H4 hi ⟨s4, nb, v5, v6, rfl⟩
        obtain ⟨t, ht, rfl⟩ : ∃ t, ts[i]? = some t ∧ x = .ref t := by
          rw [List.getElem?_map] at hi
          obtain ⟨t, ht, e⟩ := Option.map_eq_some_iff.mp hi
          exact ⟨t, ht, e.symm⟩
        obtain ⟨r, hr2, nn, gg, f1, f2, er, en, eg⟩ := (p3.keep s4).get ht
        refine ⟨_, rfl, t, _, 2, _, rfl, rfl, SqT.of er, at_c (j := 2) rfl rfl, nn, rfl, ⟨_, SqL.of en⟩, for_list (K := K) (a := nn) (xs := r.2.1.map V.str)
          (fun j σ H5 => Same H4 H5 ∧ (∀ y ∈ r.2.1.take j, y ∈ doorsL rs) ∧ ∃ v6 : Option V, σ = [some (.ref kl), some (.ref pl), some (.ref hl), some (.ref q1), some (.ref D3), some (.ref t), v6])
          ⟨Same.refl _, fun _ m => (nomatch m), _, rfl⟩ (fun j σ H5 _ h => SqL.of (h.1 _ _ en)) ?_ ?_⟩
        · rintro j y σ H5 hj ⟨s5, nb2, v6, rfl⟩
          obtain ⟨z, hz, rfl⟩ := get_strs2 hj
          have s45 := s4.trans s5
          refine ⟨_, rfl, _, rfl, D3, _, rfl, .inl (SqL.of (s45 _ _ eD3)), rfl, flat_strs _, _, rfl, ?_⟩
          show if (!inV (.str z) ((doorsL rs).map V.str)) = true then _ else _
          rw [inV_strs]
          by_cases m : z ∈ doorsL rs
          · rw [decide_eq_true m]
            refine no rfl ⟨s5, fun y hy => ?_, _, rfl⟩
            rw [List.take_add_one, hz] at hy
            rcases List.mem_append.mp hy with hy | hy
            · exact nb2 y hy
            · rw [List.mem_singleton.mp hy]
              exact m
          · rw [decide_eq_false m]
            have er5 := s5 _ _ er
            refine yes rfl ⟨_, rfl, t, _, 0, _, rfl, rfl, SqT.of er5, at_c (j := 0) rfl rfl, _, rfl, t, _, 1, _, rfl, rfl, SqT.of er5, at_c (j := 1) rfl rfl, _, rfl, (by show 3 ≤ sizeLine; decide), fun u hu => ?_⟩
            have sA := s03.trans s45
            exact k2 r z (unmet_at hr2 nb hz nb2 m) (List.mem_of_getElem? hr2) (List.mem_of_getElem? hz) u _ (sA.trans (same_new hu)) (sA.free hu) upd_same
        · rintro σ H5 ⟨s5, nb2, v6, rfl⟩
          rw [List.length_map, List.take_length] at nb2
          refine ⟨s4.trans s5, fun q hq => ?_, _, _, rfl⟩
          rw [List.take_add_one, hr2] at hq
          rcases List.mem_append.mp hq with hq | hq
          · exact nb q hq
          · rw [List.mem_singleton.mp hq]
            exact nb2
      · rintro σ H4 ⟨s4, nb, v5, v6, rfl⟩
        rw [List.length_map, lt, List.take_length] at nb
        exact k1 (unmet_no nb) _ (s03.trans s4)
end
end Yd
namespace Yd
open PySem L2
/-! ### the law's words: open doors -/
def spLOpened (K : PySem.W.Frag) : Sp := fun vs H Q _ => ∃ (kl pl hl : Addr) (as : List KA) (ks : List KD) (ps : List Str) (hs : List Pr), vs = [.ref kl, .ref pl, .ref hl] ∧ H kl = some (.lst (refsK as)) ∧ KdsAt H as ks ∧ KdsOk ks ∧ ks.length ≤ 11 ∧ SqT K H pl (ps.map V.str) ∧ ps.length = (singlesN ks).length ∧ ListP K H hl hs ∧
  ∀ q H', Same H H' → H q = none → H' q = some (.tup ((onceS (doorsL (lawRows ks ps hs))).map V.str)) → Q (.ref q) H'
section
variable {P : Program} {w : World} {K : PySem.W.Frag} {mg : Str → Option Value} {base : Heap}
def nLOpened : List Str := ["_law_kinds_here", "_law_places_here", "_law_held", "_law_doors", "_law_row", "_law_door"]
theorem scLOpened : FnScope nLOpened ["_law_kinds_here", "_law_places_here", "_law_held"] (defScope sOpened) := ⟨rfl, rfl, rfl, by decide +kernel, rfl, by decide +kernel, by decide +kernel⟩
theorem ok_lOpened {f fPr : Addr} {fd dPr : FuncData} (F : Fun K "_law_opened" "_law_opened" sOpened f fd) (B : Blt mg) (hT : mg "tuple" = none)
    (TPr : Fn K mg "_law_present" sPresent ["_law_kinds_here", "_law_places_here", "_law_held"] fPr dPr) : FnOk P w K mg base CX0 2 f fd ["_law_kinds_here", "_law_places_here", "_law_held"] (spLOpened K) := by
  have GPr : FnOk P w K mg base CX0 1 fPr dPr ["_law_kinds_here", "_law_places_here", "_law_held"] (spLPresent K) := ok_lPresent TPr.F B
  refine F.ok scLOpened (fun vs H Q E h => ?_) (fun cdv A outer s H vs Q E' hr h => ?_)
  · obtain ⟨kl, pl, hl, as, ks, ps, hs, rfl, _⟩ := h
    rfl
  · obtain ⟨kl, pl, hl, as, ks, ps, hs, rfl, hkl, hks, kok, k11, hpl, pln, hhl, k⟩ := h
    refine ⟨_, pss_cons (ps_set (i := 3) scLOpened.nd rfl (Or.inl rfl) (pe_lst pa_nil))
      (pss_cons (ps_for PassesOwn.never rfl (pi_list (pe_call GPr hr rfl TPr.g TPr.F.kp TPr.b .nil pass0 (pa_cons (pv 0) (pa_cons (pv 1) (pa_cons (pv 2) pa_nil))))) (pg_name (i := 4) scLOpened.nd rfl (Or.inl rfl))
        (pss_one (ps_for PassesOwn.never rfl (pi_list (pe_ix ix_tup (pv 4) pe_int (fun _ _ => rfl))) (pg_name (i := 5) scLOpened.nd rfl (Or.inl rfl))
          (pss_one (ps_if (pt_cmpR op_notIn_seq (pv 5) (pv 3) rfl) (pss_one (ps_expr (pe_bm PySem.F.plainAttrs_list PySem.F.slot_list_append PySem.F.type_list_append mt_append (pv 3) (pa_cons (pv 5) pa_nil)))) pss_nil)))))
      (pss_one (ps_ret (pe_callTy call_tuple_of (by rfl) hT (by decide +kernel) (pa_cons (pv 3) pa_nil))))), ?_⟩
    refine ⟨(by show 0 ≤ sizeLine; omega), fun D hD => ?_⟩
    have s0 := same_new (o := .lst []) hD
    have eD0 : upd H D (.lst []) D = some (.lst ((onceS (doorsL ((lawRows ks ps hs).take 0))).map V.str)) := upd_same
    refine ⟨_, rfl, _, rfl, _, rfl, kl, pl, hl, as, ks, ps, hs, rfl, s0 _ _ hkl, hks.keep s0, kok.ok, k11, same_seqT s0 hpl, pln, hhl.keep s0, fun q1 ts H1 s1 nq1 e1 p1 => ?_⟩
    have lr := rows_cnt110 (ps := ps) (hs := hs) kok k11
    have rok : ∀ r ∈ lawRows ks ps hs, _ := fun r m => rows_ok kok m
    generalize lawRows ks ps hs = rs at p1 lr rok k eD0
    have lt := p1.len
    have D550 : ∀ i, (doorsL (rs.take i)).length ≤ 880 := fun i => by
      refine Nat.le_trans (doorsL_len fun r hr => (rok r (List.mem_of_mem_take hr)).2.1) ?_
      rw [List.length_take]
      omega
    have s01 := s0.trans s1
    have nqD : q1 ≠ D := fun z => by rw [z, upd_same] at nq1; cases nq1
    have fpD : ∀ b, (∃ a ∈ as, b ∈ a.ns ∨ b ∈ a.gs) → b ≠ D := fun b ⟨a, ma, mb⟩ z => by
      have m : b ∈ a.fp := by
        unfold KA.fp
        simp only [List.mem_cons, List.mem_append]
        exact .inr (.inr (.inr (.inr (.inr mb))))
      obtain ⟨o, e⟩ := hks.tracked a ma b m
      rw [z, hD] at e
      cases e
    refine ⟨q1, rfl, ⟨_, SqL.of e1⟩, for_list (K := K) (a := q1) (xs := ts.map V.ref)
      (fun i σ H' => (∀ b o, H1 b = some o → b ≠ D → H' b = some o) ∧ H' D = some (.lst ((onceS (doorsL (rs.take i))).map V.str)) ∧ ∃ v4 v5 : Option V, σ = [some (.ref kl), some (.ref pl), some (.ref hl), some (.ref D), v4, v5])
      ⟨fun _ _ e _ => e, s1 _ _ eD0, _, _, rfl⟩ (fun i σ H' _ h => SqL.of (h.1 _ _ e1 nqD)) ?_ ?_⟩
    · rintro i x σ H' hi ⟨g2, eD, v4, v5, rfl⟩
      obtain ⟨t, ht, rfl⟩ : ∃ t, ts[i]? = some t ∧ x = .ref t := by
        rw [List.getElem?_map] at hi
        obtain ⟨t, ht, e⟩ := Option.map_eq_some_iff.mp hi
        exact ⟨t, ht, e.symm⟩
      obtain ⟨r, hr2, nn, gg, f1, f2, er, en, eg⟩ := p1.get ht
      have ro := rok r (List.mem_of_getElem? hr2)
      have ntD : t ≠ D := ne_of er (s1 _ _ eD0) (fun z => nomatch z)
      have ngD := fpD gg f2
      refine ⟨_, rfl, t, _, 3, _, rfl, rfl, SqT.of (g2 _ _ er ntD), at_c (j := 3) rfl rfl, gg, rfl, ⟨_, SqL.of (g2 _ _ eg ngD)⟩, for_list (K := K) (a := gg) (xs := r.2.2.map V.str)
        (fun j σ H2 => (∀ b o, H1 b = some o → b ≠ D → H2 b = some o) ∧ H2 D = some (.lst ((onceS (doorsL (rs.take i) ++ r.2.2.take j)).map V.str)) ∧ ∃ v5 : Option V, σ = [some (.ref kl), some (.ref pl), some (.ref hl), some (.ref D), some (.ref t), v5])
        ⟨g2, by rw [List.take_zero, List.append_nil]; exact eD, _, rfl⟩ (fun j σ H2 _ h => SqL.of (h.1 _ _ eg ngD)) ?_ ?_⟩
      · rintro j y σ H2 hj ⟨g3, e2, v5, rfl⟩
        obtain ⟨w, hw, rfl⟩ := get_strs2 hj
        have tk : r.2.2.take (j + 1) = r.2.2.take j ++ [w] := by rw [List.take_add_one, hw]; rfl
        have om : onceS (doorsL (rs.take i) ++ r.2.2.take (j + 1)) = addOnce (onceS (doorsL (rs.take i) ++ r.2.2.take j)) w := by
          rw [tk, ← List.append_assoc]
          unfold onceS
          rw [List.foldl_append (l' := [w])]
          rfl
        refine ⟨_, rfl, _, rfl, D, _, rfl, .inl (SqL.of e2), rfl, flat_strs _, _, rfl, ?_⟩
        rw [inV_strs]
        unfold addOnce at om
        by_cases hm : w ∈ onceS (doorsL (rs.take i) ++ r.2.2.take j)
        · rw [if_pos hm] at om
          rw [decide_eq_true hm]
          exact no rfl ⟨g3, by rw [om]; exact e2, _, rfl⟩
        · rw [if_neg hm] at om
          rw [decide_eq_false hm]
          refine yes rfl ⟨_, rfl, .inl ⟨rfl, _, SqL.of e2⟩, _, rfl, D, _, _, rfl, rfl, e2, small1000 ?_, fun b o e ne => by rw [upd_ne ne]; exact g3 b o e ne, ?_, _, rfl⟩
          · have a1 := once_len (doorsL (rs.take i) ++ r.2.2.take j)
            have a2 := D550 i
            have a3 := ro.2.1
            rw [List.length_append, List.length_take] at a1
            rw [List.length_map]
            omega
          · rw [upd_same, om, List.map_append (l₂ := [w])]
            rfl
      · rintro σ H2 ⟨g3, e2, v5, rfl⟩
        rw [List.length_map, List.take_length, ← doorsL_more hr2] at e2
        exact ⟨g3, e2, _, _, rfl⟩
    · rintro σ H2 ⟨g2, eD, v4, v5, rfl⟩
      rw [List.length_map, lt, List.take_length] at eD
      have sH : Same H H2 := fun b o e => g2 _ _ (s01 _ _ e) (ne_of_none e hD)
      exact ⟨_, rfl, D, _, rfl, .inl ⟨SqL.of eD, fun t ht => k t _ (sH.trans (same_new ht)) (sH.free ht) upd_same⟩⟩
end
end Yd
namespace Yd
open PySem L2
/-! ### the law's words: offers taken within a try -/
def spOffS (n : Kn) (CS : Addr) : Sp := fun vs H Q E => ∃ ws rest, vs = ws ++ rest ∧ ws.length = (["self"] : List Str).length ∧ rest.length ≤ sizeLine ∧ ∀ p, H p = none → spOffered n CS (ws ++ [V.ref p]) (upd H p (.tup rest)) Q E
theorem offS_of {n : Kn} {CS s : Addr} {d : SD} {xs : List PX} {ks : List KD} {ys : List V} {os : List Of} {H : Hp} {Q : VK} {E : XK} (st : SiteAt H n CS s d xs ks) (k60 : ks.length ≤ 60) (fit : ∀ k ∈ ks, KdFit k) (l100 : ∀ k ∈ ks, ∀ q ∈ k.ng, q.2.length ≤ 100)
    (ho : OfsAt H ys os) (o3 : os.length ≤ 3) (ol : ∀ o ∈ os, o.1.length ≤ 100 ∧ o.2.1.length ≤ 100)
    (kQ : (∀ o ∈ os, OkOf ks o) → ∀ x d' zs H', Same H H' → H x = none → (∀ b ∈ SD.fp d', H b = none) → (∀ z ∈ zs, ∀ b ∈ PX.fp z, H b = none) → SiteAt H' n CS x d' zs (ks.map (taken os)) → Q (.ref x) H')
    (kN : ∀ (i : Nat) (o : Of), os[i]? = some o → (∀ q ∈ os.take i, OkOf ks q) → (∀ k ∈ ks, k.nm ≠ o.1) → Raised n.CU [.str o.1] fsUnknown H E)
    (kS : ∀ (i : Nat) (o : Of) (k : KD), os[i]? = some o → (∀ q ∈ os.take i, OkOf ks q) → k ∈ ks → k.nm = o.1 → o.2.1 ∉ k.ss → Raised n.CU [.str o.2.1] fsUnknown H E) : spOffS n CS (.ref s :: ys) H Q E := by
  have hl := ho.1
  refine ⟨[.ref s], ys, rfl, rfl, Nat.le_of_lt (small1000 (by omega)), fun p hp => ?_⟩
  have s0 := same_new (o := .tup ys) hp
  refine ⟨s, d, xs, ks, p, ys, os, rfl, st.keep s0, k60, fit, l100, upd_same, ho.keep fun b xs e => s0 _ _ e, by omega, ol, fun ok x d' zs H' s1 nx nd fr st' => ?_, fun i o a b c e H' s1 he hx => ?_, fun i o k a b c c2 c3 e H' s1 he hx => ?_⟩
  · exact kQ ok x d' zs H' (s0.trans s1) (s0.free nx) (fun b hb => s0.free (nd b hb)) (fun z hz b hb => s0.free (fr z hz b hb)) st'
  · exact kN i o a b c e H' (s0.trans s1) (s0.free he) hx
  · exact kS i o k a b c c2 c3 e H' (s0.trans s1) (s0.free he) hx
/-- len of a list or a tuple -/
def rLenQ (K : PySem.W.Frag) : List V → Hp → VK → Prop := fun xs H Q => ∃ p ys, xs = [V.ref p] ∧ (SqL K H p ys ∨ SqT K H p ys) ∧ Q (V.int (ys.length : Int)) H
def spTaken (n : Kn) (CS : Addr) : Sp := fun vs H Q _ => ∃ (s : Addr) (d : SD) (xs : List PX) (ks : List KD) (lo : Addr) (ys : List V) (os : List Of), vs = [.ref s, .ref lo] ∧ SiteAt H n CS s d xs ks ∧ ks.length ≤ 60 ∧ (∀ k ∈ ks, KdFit k) ∧ (∀ k ∈ ks, ∀ q ∈ k.ng, q.2.length ≤ 100) ∧
  H lo = some (.lst ys) ∧ OfsAt H ys os ∧ os.length ≤ 3 ∧ (∀ o ∈ os, o.1.length ≤ 100 ∧ o.2.1.length ≤ 100) ∧
  ((∀ o ∈ os, OkOf ks o) → ∀ x d' zs H', Same H H' → H x = none → (∀ b ∈ SD.fp d', H b = none) → (∀ z ∈ zs, ∀ b ∈ PX.fp z, H b = none) → SiteAt H' n CS x d' zs (ks.map (taken os)) → Q (.ref x) H') ∧
  (∀ (i : Nat) (o : Of), os[i]? = some o → (∀ q ∈ os.take i, OkOf ks q) → (∀ k ∈ ks, k.nm ≠ o.1) → ∀ q H', Same H H' → H' q = some (.tup [.str "unknown", .str o.1]) → Q (.ref q) H') ∧
  (∀ (i : Nat) (o : Of) (k : KD), os[i]? = some o → (∀ q ∈ os.take i, OkOf ks q) → k ∈ ks → k.nm = o.1 → o.2.1 ∉ k.ss → ∀ q H', Same H H' → H' q = some (.tup [.str "unknown", .str o.2.1]) → Q (.ref q) H')
section
variable {P : Program} {w : World} {K : PySem.W.Frag} {mg : Str → Option Value} {base : Heap}
theorem scTaken : FnScope ["_law_site", "_law_offers", "e"] ["_law_site", "_law_offers"] (defScope sTaken) := ⟨rfl, rfl, rfl, by decide +kernel, rfl, by decide +kernel, by decide +kernel⟩
theorem ok_taken {f fO CS : Addr} {fd : FuncData} {n : Kn} (F : Fun K "_law_taken" "_law_taken" sTaken f fd) (B : Blt mg) (sc : SCls K CS)
    (mO : Meth K CS "offered" fO) (GO : FnR P w K mg base (L2.CX P w) 10 fO (spOffS n CS))
    (gU : mg "Unknown" = some (.ref n.CU)) (T : CatchC K n.CU) (n0 : PySem.W.findIn K (.ref n.CU) "name" = some none) : FnOk P w K mg base CX0 11 f fd ["_law_site", "_law_offers"] (spTaken n CS) := by
  refine F.ok scTaken (fun vs H Q E h => ?_) (fun cdv A outer s H vs Q E hr h => ?_)
  · obtain ⟨s, d, xs, ks, lo, ys, os, rfl, _⟩ := h
    rfl
  · obtain ⟨s, d, xs, ks, lo, ys, os, rfl, st, k60, fit, l100, hlo, ho, o3, ol, kQ, kN, kS⟩ := h
    refine ⟨_, pss_one (ps_try_as (i := 2) (tb := fun W => tSeq (tIfS (tTest (tOp _ (tCB (rLenQ K) (tCons (tVar 1) tNil)) (tC (.int 0)))) (tRet (tMethE0 CS "offered" (spOffS n CS) (WE W) (tVar 0))) tNext)
          (tSeq (tIfS (tTest (tOp _ (tCB (rLenQ K) (tCons (tVar 1) tNil)) (tC (.int 1)))) (tRet (tMethE CS "offered" (spOffS n CS) (WE W) (tVar 0) (tCons (tOp (rIxL K) (tVar 1) (tC (.int 0))) tNil))) tNext)
          (tSeq (tIfS (tTest (tOp _ (tCB (rLenQ K) (tCons (tVar 1) tNil)) (tC (.int 2)))) (tRet (tMethE CS "offered" (spOffS n CS) (WE W) (tVar 0) (tCons (tOp (rIxL K) (tVar 1) (tC (.int 0))) (tCons (tOp (rIxL K) (tVar 1) (tC (.int 1))) tNil)))) tNext)
          (tRet (tMethE CS "offered" (spOffS n CS) (WE W) (tVar 0) (tCons (tOp (rIxL K) (tVar 1) (tC (.int 0))) (tCons (tOp (rIxL K) (tVar 1) (tC (.int 1))) (tCons (tOp (rIxL K) (tVar 1) (tC (.int 2))) tNil)))))))) (ts := fun a cls d => tRet (tTup (tCons (tC (.str "unknown")) (tCons (tXf a cls d n.CU "name" (tVar 2)) tNil))))
        (Wout := fun _ _ _ _ => False) rfl rfl scTaken.nd rfl rfl ⟨rfl, by decide, Or.inl gU⟩ takes0
        (fun W pn xe tk _ => pss_cons (ps_if (pt_cmpR op_eq (pe_callB (r := rLenQ K) call_len_seq (by rfl) B.len PySem.boot_len (pa_cons (pv 1) pa_nil)) pe_int (nomark _)) (pss_one (ps_ret (by exact (pe_methER0 (pv 0) sc.cls mO GO hr (fun σ => passAt tk σ))))) pss_nil)
          (pss_cons (ps_if (pt_cmpR op_eq (pe_callB (r := rLenQ K) call_len_seq (by rfl) B.len PySem.boot_len (pa_cons (pv 1) pa_nil)) pe_int (nomark _)) (pss_one (ps_ret (by exact (pe_methER (pv 0) sc.cls mO GO hr (fun σ => passAt tk σ) (by exact (pa_cons (pe_ix ix_list (pv 1) pe_int (fun _ _ => rfl)) pa_nil)))))) pss_nil)
          (pss_cons (ps_if (pt_cmpR op_eq (pe_callB (r := rLenQ K) call_len_seq (by rfl) B.len PySem.boot_len (pa_cons (pv 1) pa_nil)) pe_int (nomark _)) (pss_one (ps_ret (by exact (pe_methER (pv 0) sc.cls mO GO hr (fun σ => passAt tk σ) (by exact (pa_cons (pe_ix ix_list (pv 1) pe_int (fun _ _ => rfl)) (pa_cons (pe_ix ix_list (pv 1) pe_int (fun _ _ => rfl)) pa_nil))))))) pss_nil)
          (pss_one (ps_ret (by exact (pe_methER (pv 0) sc.cls mO GO hr (fun σ => passAt tk σ) (by exact (pa_cons (pe_ix ix_list (pv 1) pe_int (fun _ _ => rfl)) (pa_cons (pe_ix ix_list (pv 1) pe_int (fun _ _ => rfl)) (pa_cons (pe_ix ix_list (pv 1) pe_int (fun _ _ => rfl)) pa_nil)))))))))))
        (fun a oe cls d pn hz hf => pss_one (ps_ret (pe_tup (by exact (pa_cons pe_str (pa_cons (pe_xf T.xf n0 hz hf (pv 2)) pa_nil))))))), ?_⟩
    obtain ⟨dx, es⟩ := st.ins
    have hl := ho.1
    have bad : ∀ z : Str, (∀ q H', Same H H' → H' q = some (.tup [.str "unknown", .str z]) → Q (.ref q) H') → ∀ (d : Addr) (H' : Hp), Same H H' → H' d = some (.xd (fsUnknown [.str z])) → ∀ p, H' p = none → Q (.ref p) (upd H' p (.tup [.str "unknown", .str z])) := fun z kz d H' s5 hx p hp => kz p _ (s5.trans (same_new hp)) upd_same
    have e0 : ((ys.length : Int) = 0 ↔ os.length = 0) := by omega
    refine ⟨_, rfl, lo, ys, rfl, .inl (SqL.of hlo), rfl, _, rfl, ?_⟩
    by_cases h0 : os.length = 0
    · have hy : ys = [] := List.length_eq_zero_iff.mp (by omega)
      subst hy
      refine yes rfl ⟨_, rfl, s, dx, _, rfl, es, rfl, offS_of st k60 fit l100 ho o3 ol kQ (fun i o a b c d' H' s5 hd hx => ?_) (fun i o k a b c c2 c3 d' H' s5 hd hx => ?_)⟩
      · refine ⟨true, T.self, fun _ a0 _ => ?_, fun q => Bool.noConfusion q⟩
        exact ⟨_, rfl, rfl, rfl, d', _, _, rfl, hx, rfl, (by show 2 ≤ sizeLine; decide), bad _ (kN i o a b c) d' H' s5 hx⟩
      · refine ⟨true, T.self, fun _ a0 _ => ?_, fun q => Bool.noConfusion q⟩
        exact ⟨_, rfl, rfl, rfl, d', _, _, rfl, hx, rfl, (by show 2 ≤ sizeLine; decide), bad _ (kS i o k a b c c2 c3) d' H' s5 hx⟩
    refine no (decide_eq_false fun q => h0 (by injection q; omega)) ⟨_, rfl, lo, ys, rfl, .inl (SqL.of hlo), rfl, _, rfl, ?_⟩
    by_cases h1 : os.length = 1
    · obtain ⟨y0, rfl⟩ : ∃ y0, ys = [y0] := List.length_eq_one_iff.mp (by omega)
      refine yes rfl ⟨_, rfl, s, dx, _, rfl, es, rfl, _, rfl, lo, _, 0, _, rfl, rfl, SqL.of hlo, at_c (j := 0) rfl rfl, offS_of st k60 fit l100 ho o3 ol kQ (fun i o a b c d' H' s5 hd hx => ?_) (fun i o k a b c c2 c3 d' H' s5 hd hx => ?_)⟩
      · refine ⟨true, T.self, fun _ a0 _ => ?_, fun q => Bool.noConfusion q⟩
        exact ⟨_, rfl, rfl, rfl, d', _, _, rfl, hx, rfl, (by show 2 ≤ sizeLine; decide), bad _ (kN i o a b c) d' H' s5 hx⟩
      · refine ⟨true, T.self, fun _ a0 _ => ?_, fun q => Bool.noConfusion q⟩
        exact ⟨_, rfl, rfl, rfl, d', _, _, rfl, hx, rfl, (by show 2 ≤ sizeLine; decide), bad _ (kS i o k a b c c2 c3) d' H' s5 hx⟩
    refine no (decide_eq_false fun q => h1 (by injection q; omega)) ⟨_, rfl, lo, ys, rfl, .inl (SqL.of hlo), rfl, _, rfl, ?_⟩
    by_cases h2 : os.length = 2
    · obtain ⟨y0, y1, rfl⟩ : ∃ y0 y1, ys = [y0, y1] := by
        match ys, hl with
        | [a, b], _ => exact ⟨a, b, rfl⟩
        | [], q => simp at q; omega
        | [a], q => simp at q; omega
        | a :: b :: c :: r, q => simp at q; omega
      refine yes rfl ⟨_, rfl, s, dx, _, rfl, es, rfl, _, rfl, lo, _, 0, _, rfl, rfl, SqL.of hlo, at_c (j := 0) rfl rfl, _, rfl, lo, _, 1, _, rfl, rfl, SqL.of hlo, at_c (j := 1) rfl rfl, offS_of st k60 fit l100 ho o3 ol kQ (fun i o a b c d' H' s5 hd hx => ?_) (fun i o k a b c c2 c3 d' H' s5 hd hx => ?_)⟩
      · refine ⟨true, T.self, fun _ a0 _ => ?_, fun q => Bool.noConfusion q⟩
        exact ⟨_, rfl, rfl, rfl, d', _, _, rfl, hx, rfl, (by show 2 ≤ sizeLine; decide), bad _ (kN i o a b c) d' H' s5 hx⟩
      · refine ⟨true, T.self, fun _ a0 _ => ?_, fun q => Bool.noConfusion q⟩
        exact ⟨_, rfl, rfl, rfl, d', _, _, rfl, hx, rfl, (by show 2 ≤ sizeLine; decide), bad _ (kS i o k a b c c2 c3) d' H' s5 hx⟩
    obtain ⟨y0, y1, y2, rfl⟩ : ∃ y0 y1 y2, ys = [y0, y1, y2] := by
      match ys, hl with
      | [a, b, c], _ => exact ⟨a, b, c, rfl⟩
      | [], q => simp at q; omega
      | [a], q => simp at q; omega
      | [a, b], q => simp at q; omega
      | a :: b :: c :: d :: r, q => simp at q; omega
    refine no (decide_eq_false fun q => h2 (by injection q; omega)) ⟨_, rfl, s, dx, _, rfl, es, rfl, _, rfl, lo, _, 0, _, rfl, rfl, SqL.of hlo, at_c (j := 0) rfl rfl, _, rfl, lo, _, 1, _, rfl, rfl, SqL.of hlo, at_c (j := 1) rfl rfl, _, rfl, lo, _, 2, _, rfl, rfl, SqL.of hlo, at_c (j := 2) rfl rfl, offS_of st k60 fit l100 ho o3 ol kQ (fun i o a b c d' H' s5 hd hx => ?_) (fun i o k a b c c2 c3 d' H' s5 hd hx => ?_)⟩
    · refine ⟨true, T.self, fun _ a0 _ => ?_, fun q => Bool.noConfusion q⟩
      exact ⟨_, rfl, rfl, rfl, d', _, _, rfl, hx, rfl, (by show 2 ≤ sizeLine; decide), bad _ (kN i o a b c) d' H' s5 hx⟩
    · refine ⟨true, T.self, fun _ a0 _ => ?_, fun q => Bool.noConfusion q⟩
      exact ⟨_, rfl, rfl, rfl, d', _, _, rfl, hx, rfl, (by show 2 ≤ sizeLine; decide), bad _ (kS i o k a b c c2 c3) d' H' s5 hx⟩
end
end Yd
namespace Yd
open PySem L2
/-! ### list.remove of texts -/
section
open PyProof.Rows
variable {X : Cx}
def eqS (z : Str) (v : Value) : Bool := match v with
  | .str n _ => n.cps.toList == z.cps.toList
  | _ => false
theorem eqS_gives {z : Str} {t : Tok} : ∀ {us : List Value} {ss : List Str}, Vals (ss.map V.str) us → ∀ y ∈ us, MeetsSeq.EqGives y (.str z t) (eqS z y)
  | _, [], .nil => fun y hy => by cases hy
  | _, s :: ss, .cons r h => fun y hy => by
    rcases List.mem_cons.mp hy with e | e
    · obtain ⟨t', q⟩ := (show ∃ t', _ = Value.str s t' from r)
      rw [e, q]
      exact SeqRoads2.EqGives.str s z t' t
    · exact eqS_gives h y e
theorem eqS_at {z : Str} : ∀ {us : List Value} {ss : List Str}, Vals (ss.map V.str) us → ∀ (i : Nat) (h : i < us.length), eqS z us[i] = true ↔ ss[i]? = some z
  | _, [], .nil, i, h => absurd h (by simp)
  | _, s :: ss, .cons r h, 0, _ => by
    obtain ⟨t', q⟩ := (show ∃ t', _ = Value.str s t' from r)
    subst q
    show (s.cps.toList == z.cps.toList) = true ↔ some s = some z
    rw [beq_iff_eq, Option.some_inj]
    constructor
    · intro e
      cases s
      cases z
      congr 1
      exact Array.toList_inj.mp e
    · intro e
      rw [e]
  | _, s :: ss, .cons r h, i + 1, hi => eqS_at h i (Nat.lt_of_succ_lt_succ hi)
def rRemS : V → List V → Hp → VK → Prop := fun x xs H Q => ∃ (l : Addr) (ss : List Str) (z : Str) (j : Nat), x = .ref l ∧ xs = [.str z] ∧ H l = some (.lst (ss.map V.str)) ∧ ss[j]? = some z ∧ ss.Nodup ∧ Q .non (upd H l (.lst ((ss.eraseIdx j).map V.str)))
theorem mt_removeS : MtM X "list.remove" rRemS := by
  intro pins s σ H x xs v us Q I rx rxs h
  obtain ⟨l, ss, z, j, rfl, rfl, hH, hj, nd, q⟩ := h
  cases rx
  obtain ⟨u, rfl, ru⟩ := rxs.one
  obtain ⟨t, rfl⟩ := (show ∃ t, u = Value.str z t from ru)
  obtain ⟨sz, its, n, r, hl, e⟩ := I.lstM hH
  rw [List.length_map] at hl sz
  have hjn : j < ss.length := (List.getElem?_eq_some_iff.mp hj).1
  have hjl : j < its.toArray.size := by rw [List.size_toArray]; omega
  refine call_meets PySem.F.slot_list_remove ⟨_, e, rfl⟩ PySem.F.entry_list_remove (PySem.F.args_list_remove_2 _ _)
    (MeetsSeq.list_remove l its.toArray n (.str z t) (eqS z) (fun y hy => eqS_gives r y (by simpa using hy)) j hjl ?_ ?_ (by rw [List.size_toArray]; omega)) ⟨e, ?_⟩
  · show eqS z its[j] = true
    exact (eqS_at r j (by rw [List.size_toArray] at hjl; exact hjl)).mpr hj
  · intro m hm hmj
    rw [List.size_toArray] at hm
    show eqS z its[m] = false
    rw [Bool.eq_false_iff]
    intro w
    have := nd_ix nd ((eqS_at r m hm).mp w) hj
    omega
  · have rr := r.eraseIdx j
    have em : (ss.map V.str).eraseIdx j = (ss.eraseIdx j).map V.str := by
      have gen : ∀ (l : List Str) (j : Nat), (l.map V.str).eraseIdx j = (l.eraseIdx j).map V.str := fun l => by
        induction l with
        | nil => intro j; cases j <;> rfl
        | cons a l ih =>
          intro j
          cases j with
          | zero => rfl
          | succ j => show V.str a :: (l.map V.str).eraseIdx j = V.str a :: (l.eraseIdx j).map V.str; rw [ih j]
      exact gen ss j
    rw [em] at rr
    refine ⟨.non, _, I.lset (its' := its.eraseIdx j) (t' := s.toks) hH e ?_ rr ?_, rfl, q⟩
    · show its.toArray.eraseIdxIfInBounds j = (its.eraseIdx j).toArray
      rw [List.eraseIdxIfInBounds_toArray]
    · have z2 := List.length_eraseIdx_le ss j
      rw [List.length_map]
      omega
end
end Yd
namespace Yd
open PySem L2
/-! ### kinds that differ in their needs alone -/
def KD.sh (k : KD) : Str × Bool × List Str × List Pr := (k.nm, k.one, k.ss, k.st)
def Alike (ks ks' : List KD) : Prop := ks.map KD.sh = ks'.map KD.sh
theorem Alike.len {ks ks' : List KD} (h : Alike ks ks') : ks.length = ks'.length := by
  have := congrArg List.length h
  rwa [List.length_map, List.length_map] at this
theorem Alike.trans {a b c : List KD} (h : Alike a b) (g : Alike b c) : Alike a c := Eq.trans h g
theorem Alike.filter {ks ks' : List KD} (h : Alike ks ks') (p : Bool → Bool) : Alike (ks.filter fun k => p k.one) (ks'.filter fun k => p k.one) := by
  have e : ∀ l : List KD, (l.filter fun k => p k.one).map KD.sh = (l.map KD.sh).filter fun s => p s.2.1 := fun l => by
    rw [List.filter_map]
    rfl
  unfold Alike
  rw [e, e, h]
theorem Alike.names {ks ks' : List KD} (h : Alike ks ks') : ks.map (·.nm) = ks'.map (·.nm) := by
  have e : ∀ l : List KD, l.map (·.nm) = (l.map KD.sh).map (·.1) := fun l => by rw [List.map_map]; rfl
  rw [e, e, h]
theorem Alike.stand {ks ks' : List KD} (h : Alike ks ks') : ks.map (·.ss) = ks'.map (·.ss) := by
  have e : ∀ l : List KD, l.map (·.ss) = (l.map KD.sh).map (·.2.2.1) := fun l => by rw [List.map_map]; rfl
  rw [e, e, h]
theorem Alike.singles {ks ks' : List KD} (h : Alike ks ks') : singlesN ks = singlesN ks' := (h.filter id).names
theorem Alike.allS {ks ks' : List KD} (h : Alike ks ks') : allS ks = allS ks' := by
  have e : ∀ l : List KD, Yd.allS l = (l.map KD.sh).flatMap fun s => s.2.2.1.map fun z => (s.1, z) := fun l => by
    unfold Yd.allS kSpots
    rw [List.flatMap_map]
    rfl
  rw [e, e, h]
theorem Alike.spots {ks ks' : List KD} (h : Alike ks ks') : spotsL ks = spotsL ks' := (h.filter (!·)).allS
theorem badPl_alike : ∀ {S S' : List KD} {ps : List Str}, S.map (·.ss) = S'.map (·.ss) → badPl S ps = badPl S' ps
  | [], [], _, _ => rfl
  | _ :: _, [], _, h => by cases h
  | [], _ :: _, _, h => by cases h
  | a :: S, b :: S', [], _ => rfl
  | a :: S, b :: S', p :: ps, h => by
    rw [List.map_cons, List.map_cons] at h
    injection h with h1 h2
    show (if p ∈ a.ss then badPl S ps else some p) = if p ∈ b.ss then badPl S' ps else some p
    rw [h1, badPl_alike h2]
theorem Alike.plok {ks ks' : List KD} {ps : List Str} (h : Alike ks ks') (p : PlOk ks ps) : PlOk ks' ps := ⟨by rw [← h.singles]; exact p.1, (badPl_alike (h.filter id).stand).symm.trans p.2⟩
/-- a need less -/
def KD.less (k : KD) (i : Nat) (xs : List Str) (ys : List Str) : KD := { k with ng := k.ng.set i (xs, ys) }
theorem set_self {α : Type} : ∀ {l : List α} {i : Nat} {x : α}, l[i]? = some x → l.set i x = l
  | [], _, _, h => by simp at h
  | a :: l, 0, x, h => by cases h; rfl
  | a :: l, i + 1, x, h => by
    rw [List.set_cons_succ, set_self (by simpa using h)]
theorem Alike.set {ks : List KD} {j : Nat} {k k' : KD} (h : ks[j]? = some k) (e : k'.sh = k.sh) : Alike ks (ks.set j k') := by
  unfold Alike
  rw [List.map_set, e, set_self (by rw [List.getElem?_map, h]; rfl)]
theorem StrLs.look {H : Hp} : ∀ {as : List Addr} {xss : List (List Str)} {i : Nat} {a : Addr}, StrLs H as xss → as[i]? = some a → ∃ xs, xss[i]? = some xs ∧ H a = some (.lst (xs.map V.str))
  | [], [], _, _, _, h => by simp at h
  | _ :: _, xs :: _, 0, a, ⟨h, _⟩, e => ⟨xs, rfl, by rw [← Option.some.inj e]; exact h⟩
  | _ :: _, _ :: _, i + 1, a, ⟨_, q⟩, e => StrLs.look (i := i) q (by simpa using e)
  | [], _ :: _, _, _, h, _ => h.elim
  | _ :: _, [], _, _, h, _ => h.elim
theorem StrLs.set {H : Hp} {nj : Addr} {ys : List Str} : ∀ {as : List Addr} {xss : List (List Str)} {i : Nat}, StrLs H as xss → as.Nodup → as[i]? = some nj → StrLs (upd H nj (.lst (ys.map V.str))) as (xss.set i ys)
  | [], [], _, _, _, h => by simp at h
  | a :: as, xs :: xss, 0, ⟨_, r⟩, nd, h => by
    cases h
    rw [List.nodup_cons] at nd
    exact ⟨upd_same, r.on fun x hx o e => by rw [upd_ne (fun z => nd.1 (by rw [← z]; exact hx))]; exact e⟩
  | a :: as, xs :: xss, i + 1, ⟨q, r⟩, nd, h => by
    rw [List.nodup_cons] at nd
    have h : as[i]? = some nj := by simpa using h
    exact ⟨by rw [upd_ne (fun z => nd.1 (by rw [z]; exact List.mem_of_getElem? h))]; exact q, r.set nd.2 h⟩
  | [], _ :: _, _, h, _, _ => h.elim
  | _ :: _, [], _, h, _, _ => h.elim
theorem KA.ns_fp {a : KA} {x : Addr} (h : x ∈ a.ns) : x ∈ a.fp := by unfold KA.fp; simp [h]
theorem KdAt.set {H : Hp} {a : KA} {k : KD} {i : Nat} {nj : Addr} {q : List Str × List Str} {ys : List Str} (h : KdAt H a k) (hn : a.ns[i]? = some nj) (hq : k.ng[i]? = some q) : KdAt (upd H nj (.lst (ys.map V.str))) a (k.less i ys q.2) := by
  have mn := List.mem_of_getElem? hn
  have nd := h.nd
  unfold KA.fp at nd
  rw [List.nodup_cons, List.nodup_cons, List.nodup_cons, List.nodup_cons, List.nodup_cons, List.nodup_append] at nd
  obtain ⟨n1, n2, n3, n4, n5, n6, n7, n8⟩ := nd
  have u1 : a.u ≠ nj := fun z => n1 (by rw [z]; simp [mn])
  have u2 : a.l ≠ nj := fun z => n2 (by rw [z]; simp [mn])
  have u3 : a.q ≠ nj := fun z => n3 (by rw [z]; simp [mn])
  have u4 : a.n ≠ nj := fun z => n4 (by rw [z]; simp [mn])
  have u5 : a.g ≠ nj := fun z => n5 (by rw [z]; simp [mn])
  obtain ⟨xs0, hx0, e0⟩ : ∃ xs0, (k.ng.map (·.1))[i]? = some xs0 ∧ H nj = some (.lst (xs0.map V.str)) := h.hns.look hn
  have tk : ∀ b xs, H b = some (.tup xs) → upd H nj (.lst (ys.map V.str)) b = some (.tup xs) := fun b xs e => by rw [upd_ne (ne_of e e0 (fun z => nomatch z))]; exact e
  refine ⟨by rw [upd_ne u1]; exact h.hu, by rw [upd_ne u2]; exact h.hl, ?_, by rw [upd_ne u4]; exact h.hn, ?_, by rw [upd_ne u5]; exact h.hg, ?_, h.nd⟩
  · obtain ⟨xs, e, p⟩ := h.hq
    exact ⟨xs, by rw [upd_ne u3]; exact e, p.keep tk⟩
  · show StrLs _ a.ns ((k.ng.set i (ys, q.2)).map (·.1))
    rw [List.map_set]
    exact h.hns.set n6 hn
  · show StrLs _ a.gs ((k.ng.set i (ys, q.2)).map (·.2))
    rw [List.map_set, set_self (by rw [List.getElem?_map, hq]; rfl)]
    exact h.hgs.on fun x hx o e => by rw [upd_ne (fun z => n8 nj mn x hx z.symm)]; exact e
theorem KdsAt.off1 {H : Hp} {nj : Addr} {o0 : HO} {xs0 : List V} (e0 : H nj = some (.lst xs0)) : ∀ {as : List KA} {ks : List KD}, KdsAt H as ks → (∀ b ∈ as, nj ∉ b.fp) → KdsAt (upd H nj o0) as ks
  | [], [], _, _ => True.intro
  | a :: as, k :: ks, ⟨h, d, r⟩, m => ⟨h.on (fun x hx o e => by rw [upd_ne (fun z => m a (List.mem_cons_self ..) (by rw [← z]; exact hx))]; exact e) (fun b xs e => by rw [upd_ne (ne_of e e0 (fun z => nomatch z))]; exact e), d, r.off1 e0 fun b hb => m b (List.mem_cons_of_mem _ hb)⟩
  | [], _ :: _, h, _ => h.elim
  | _ :: _, [], h, _ => h.elim
theorem KdsAt.set {H : Hp} {a : KA} {k : KD} {i : Nat} {nj : Addr} {q : List Str × List Str} {ys : List Str} (hn : a.ns[i]? = some nj) (hq : k.ng[i]? = some q) : ∀ {as : List KA} {ks : List KD} {j : Nat}, KdsAt H as ks → as[j]? = some a → ks[j]? = some k → KdsAt (upd H nj (.lst (ys.map V.str))) as (ks.set j (k.less i ys q.2))
  | [], [], _, _, h, _ => by simp at h
  | b :: as, l :: ks, 0, ⟨h, d, r⟩, ha, hk => by
    cases ha
    cases hk
    obtain ⟨xs0, hx0, e0⟩ : ∃ xs0, (k.ng.map (·.1))[i]? = some xs0 ∧ H nj = some (.lst (xs0.map V.str)) := h.hns.look hn
    exact ⟨h.set hn hq, d, r.off1 e0 fun b hb => d nj (KA.ns_fp (List.mem_of_getElem? hn)) b hb⟩
  | b :: as, l :: ks, j + 1, ⟨h, d, r⟩, ha, hk => by
    have ha : as[j]? = some a := by simpa using ha
    have hk : ks[j]? = some k := by simpa using hk
    obtain ⟨k', hk', ka⟩ := r.at_ ha
    obtain ⟨xs0, hx0, e0⟩ : ∃ xs0, (k'.ng.map (·.1))[i]? = some xs0 ∧ H nj = some (.lst (xs0.map V.str)) := ka.hns.look hn
    refine ⟨h.on (fun x hx o e => ?_) (fun b xs e => by rw [upd_ne (ne_of e e0 (fun z => nomatch z))]; exact e), d, r.set hn hq ha hk⟩
    rw [upd_ne (fun z => d x hx a (List.mem_of_getElem? ha) (by rw [z]; exact KA.ns_fp (List.mem_of_getElem? hn)))]
    exact e
  | [], _ :: _, _, h, _, _ => h.elim
  | _ :: _, [], _, h, _, _ => h.elim
theorem off_upd_ne {p b : Addr} {H : Hp} {o : HO} (n : b ≠ p) : off p (upd H b o) = upd (off p H) b o := by
  funext x
  by_cases e : x = b
  · subst e
    rw [off_ne n, upd_same, upd_same]
  · rw [upd_ne e]
    by_cases e2 : x = p
    · rw [e2, off_self, off_self]
    · rw [off_ne e2, off_ne e2, upd_ne e]
theorem KdsOk.set {ks : List KD} (h : KdsOk ks) {j i m : Nat} {k : KD} {q : List Str × List Str} (hk : ks[j]? = some k) (hq : k.ng[i]? = some q) : KdsOk (ks.set j (k.less i (q.1.eraseIdx m) q.2)) := by
  have o := h.ok k (List.mem_of_getElem? hk)
  have mq := List.mem_of_getElem? hq
  have sub : ∀ z ∈ q.1.eraseIdx m, z ∈ q.1 := fun z hz => (List.eraseIdx_sublist q.1 m).subset hz
  have ok' : KdOk (k.less i (q.1.eraseIdx m) q.2) := ⟨o.s0, o.s5, o.sn, o.st, o.stl, by show (k.ng.set i _).length = _; rw [List.length_set]; exact o.ln, fun r hr => by
      rcases List.mem_or_eq_of_mem_set hr with hr | rfl
      · exact o.ng r hr
      · obtain ⟨a, b, c, d⟩ := o.ng q mq
        exact ⟨a.sublist (List.eraseIdx_sublist ..), b, Nat.le_trans (List.length_eraseIdx_le ..) c, d⟩,
    fun r hr => by
      rcases List.mem_or_eq_of_mem_set hr with hr | rfl
      · exact o.dn r hr
      · obtain ⟨a, b⟩ := o.dn q mq
        exact ⟨fun z hz => a z (sub z hz), b⟩⟩
  refine ⟨fun k' hk' => ?_, fun t k' ht => ?_⟩
  · rcases List.mem_or_eq_of_mem_set hk' with m | rfl
    · exact h.ok k' m
    · exact ok'
  · by_cases e : j = t
    · subst e
      rw [List.getElem?_set_self (by exact (List.getElem?_eq_some_iff.mp hk).1)] at ht
      cases ht
      exact h.nm j k hk
    · rw [List.getElem?_set_ne e] at ht
      exact h.nm t k' ht
end Yd
namespace Yd
open PySem L2
/-! ### the law's words: offers taken by the reckoning -/
theorem taken_needs : ∀ (os : List Of) (k : KD), (taken os k).ng.map (·.1) = k.ng.map (·.1)
  | [], _ => rfl
  | o :: os, k => by
    refine (taken_needs os (give k o)).trans ?_
    unfold give
    split
    · refine List.ext_getElem? fun i => ?_
      rw [List.getElem?_map, List.getElem?_map]
      show (((k.ng.modify (k.ss.idxOf o.2.1) fun p => (p.1, addOnce p.2 o.2.2)))[i]?).map (·.1) = _
      rw [List.getElem?_modify]
      cases k.ng[i]? with
      | none => rfl
      | some p =>
        show some ((if _ then _ else _ : List Str × List Str).1) = some p.1
        split <;> rfl
    · rfl
theorem KdsAt.apart {H : Hp} : ∀ {as : List KA} {ks : List KD} {i j : Nat} {a b : KA} {x : Addr}, KdsAt H as ks → as[i]? = some a → as[j]? = some b → i < j → x ∈ a.fp → x ∈ b.fp → False
  | [], [], _, _, _, _, _, _, h, _, _, _, _ => by simp at h
  | a :: as, _ :: _, 0, j + 1, _, b, x, ⟨_, d, _⟩, hi, hj, _, m1, m2 => by
    cases hi
    exact d x m1 b (List.mem_of_getElem? (by simpa using hj)) m2
  | a :: as, _ :: _, i + 1, j + 1, _, _, _, ⟨_, _, r⟩, hi, hj, lt, m1, m2 => KdsAt.apart r (by simpa using hi) (by simpa using hj) (Nat.lt_of_succ_lt_succ lt) m1 m2
  | a :: as, _ :: _, _, 0, _, _, _, _, _, _, lt, _, _ => absurd lt (Nat.not_lt_zero _)
  | [], _ :: _, _, _, _, _, _, h, _, _, _, _, _ => h.elim
  | _ :: _, [], _, _, _, _, _, h, _, _, _, _, _ => h.elim
/-- list of a list or a tuple -/
def rListOf (K : PySem.W.Frag) : List V → Hp → VK → Prop := fun xs H Q => ∃ p ys, xs = [.ref p] ∧ (SqL K H p ys ∨ SqT K H p ys) ∧ ∀ l, H l = none → Q (.ref l) (upd H l (.lst ys))
theorem eqV_str (a b : Str) : eqV (.str a) (.str b) = decide (a = b) := by
  by_cases h : a = b
  · subst h
    rw [decide_eq_true rfl]
    simp [eqV]
  · rw [decide_eq_false h]
    simp [eqV, h]
/-- the lists of given doors of a kind while its offers are taken -/
def GivL (H0 H : Hp) (gl : Addr) (gs : List Addr) (k : KD) : Prop := H gl = some (.lst (gs.map V.ref)) ∧ StrLs H gs (k.ng.map (·.2)) ∧ gs.Nodup ∧ gl ∉ gs ∧ (∀ x ∈ gs, H0 x = none) ∧ H0 gl = none
def spLOffered : Sp := fun vs H Q _ => ∃ (kl lo : Addr) (as : List KA) (ks : List KD) (ys : List V) (os : List Of), vs = [.ref kl, .ref lo] ∧ H kl = some (.lst (refsK as)) ∧ KdsAt H as ks ∧ KdsOk ks ∧ ks.length ≤ 11 ∧ H lo = some (.lst ys) ∧ OfsAt H ys os ∧ os.length ≤ 3 ∧ (∀ o ∈ os, OkOf ks o) ∧ (∀ k ∈ ks, Sm k) ∧
  ∀ q as' H', Same H H' → H q = none → H' q = some (.lst (refsK as')) → KdsAt H' as' (ks.map (taken os)) → Q (.ref q) H'
section
variable {P : Program} {w : World} {K : PySem.W.Frag} {mg : Str → Option Value} {base : Heap}
def nLOffered : List Str := ["_law_kinds_here", "_law_offers", "_law_found", "_law_kind_here", "_law_row", "_law_gives", "_law_offer_here"]
theorem scLOffered : FnScope nLOffered ["_law_kinds_here", "_law_offers"] (defScope sOffered) := ⟨rfl, rfl, rfl, by decide +kernel, rfl, by decide +kernel, by decide +kernel⟩
theorem ok_lOffered {f : Addr} {fd : FuncData} (F : Fun K "_law_offered" "_law_offered" sOffered f fd) (hL : mg "list" = none) : FnOk P w K mg base CX0 1 f fd ["_law_kinds_here", "_law_offers"] spLOffered := by
  refine F.ok scLOffered (fun vs H Q E h => ?_) (fun cdv A outer s H vs Q E' hr h => ?_)
  · obtain ⟨kl, lo, as, ks, ys, os, rfl, _⟩ := h
    rfl
  · obtain ⟨kl, lo, as, ks, ys, os, rfl, hkl, hks, kok, k11, hlo, ho, o3, oko, sm, k⟩ := h
    refine ⟨_, pss_cons (ps_set (i := 2) scLOffered.nd rfl (Or.inl rfl) (pe_lst pa_nil))
      (pss_cons (ps_for PassesOwn.never rfl (pi_list (pv 0)) (pg_name (i := 3) scLOffered.nd rfl (Or.inl rfl))
        (pss_cons (ps_setLc (i := 5) (own := [("_law_row", 4)]) (g := gName 4) (tt := tYes) (te := tCB (rListOf K) (tCons (tVar 4) tNil)) rfl scLOffered.nd rfl rfl (sw_true rfl rfl rfl (by decide +kernel)) (pi_list (pe_ix ix_list (pv 3) pe_int (fun _ _ => rfl))) (blkOk_by (N := nLOffered) (sc := defScope sOffered) (by decide +kernel))
            (fun _ _ _ _ _ => pg_name (i := 4) scLOffered.nd rfl (Or.inl rfl)) (fun _ _ _ _ _ => pts_nil) (fun _ _ _ _ _ => pe_callTy (r := rListOf K) call_list_of (by rfl) hL (by decide +kernel) (pa_cons (pv 4) pa_nil)))
        (pss_cons (ps_for PassesOwn.never rfl (pi_list (pv 1)) (pg_name (i := 6) scLOffered.nd rfl (Or.inl rfl))
          (pss_one (ps_if (pt_cmpR op_eq (pe_ix ix_tup (pv 6) pe_int (fun _ _ => rfl)) (pe_ix ix_list (pv 3) pe_int (fun _ _ => rfl)) (nomark _))
            (pss_cons (ps_set (i := 4) scLOffered.nd rfl (Or.inl rfl) (pe_ix ix_list (pv 5) (pe_bm PySem.F.plainAttrs_list PySem.F.slot_list_index PySem.F.type_list_index mt_index (pe_ix ix_list (pv 3) pe_int (fun _ _ => rfl)) (pa_cons (pe_ix ix_tup (pv 6) pe_int (fun _ _ => rfl)) pa_nil)) (fun _ _ => rfl)))
            (pss_one (ps_if (pt_cmpR op_notIn_seq (pe_ix ix_tup (pv 6) pe_int (fun _ _ => rfl)) (pv 4) rfl) (pss_one (ps_expr (pe_bm PySem.F.plainAttrs_list PySem.F.slot_list_append PySem.F.type_list_append mt_append (pv 4) (pa_cons (pe_ix ix_tup (pv 6) pe_int (fun _ _ => rfl)) pa_nil)))) pss_nil)))
            pss_nil)))
        (pss_one (ps_expr (pe_bm PySem.F.plainAttrs_list PySem.F.slot_list_append PySem.F.type_list_append mt_append (pv 2) (pa_cons (pe_op op_cat (pe_slice sl_list (pv 3) po_none (po_some pe_int)) (pe_lst (pa_cons (pv 5) pa_nil))) pa_nil)))))))
      (pss_one (ps_ret (pv 2)))), ?_⟩
    refine ⟨(by show 0 ≤ sizeLine; omega), fun D hD => ?_⟩
    have s0 := same_new (o := .lst []) hD
    have eD0 : upd H D (.lst []) D = some (.lst []) := upd_same
    generalize upd H D (.lst []) = H0 at s0 eD0 ⊢
    have al := hks.len
    refine ⟨_, rfl, kl, rfl, ⟨_, SqL.of (s0 _ _ hkl)⟩, for_list (K := K) (a := kl) (xs := refsK as)
      (fun i σ H' => Same H H' ∧ ∃ (bs : List KA) (v3 v4 v5 v6 : Option V), H' D = some (.lst (refsK bs)) ∧ KdsAt H' bs ((ks.take i).map (taken os)) ∧ (∀ (j : Nat) (b a : KA), bs[j]? = some b → as[j]? = some a → ∀ x ∈ b.fp, H x = none ∨ x ∈ a.fp) ∧
        (∀ b ∈ bs, D ∉ b.fp) ∧ σ = [some (.ref kl), some (.ref lo), some (.ref D), v3, v4, v5, v6])
      ⟨s0, [], _, _, _, _, eD0, True.intro, fun j b a h => by simp at h, fun _ m => (nomatch m), rfl⟩ (fun i σ H' _ h => SqL.of (h.1 _ _ hkl)) ?_ ?_⟩
    · rintro i y σ H1 hi ⟨s1, bs, v3, v4, v5, v6, eD, hbs, hsh, nod, rfl⟩
      obtain ⟨a, ha, rfl⟩ := refsK_at hi
      obtain ⟨kd, hk, ka⟩ := hks.at_ ha
      have mk := List.mem_of_getElem? hk
      have ok := kok.ok kd mk
      have s5 := ok.s5
      have smk := sm kd mk
      have k1 := ka.keep s1
      have lgs := ka.hgs.len
      rw [List.length_map] at lgs
      have ln := ok.ln
      -- the copies
      refine ⟨_, rfl, a.u, _, 5, _, rfl, rfl, SqL.of k1.hu, at_c (j := 5) rfl rfl, a.g, rfl, ⟨_, SqL.of k1.hg⟩, fun gl hgl => ?_⟩
      refine lc_list (K := K) (a := a.g) (xs := a.gs.map V.ref) (fun j H2 => Same H1 H2 ∧ ∃ gs : List Addr, H2 gl = some (.lst (gs.map V.ref)) ∧ StrLs H2 gs ((kd.ng.map (·.2)).take j) ∧ gs.Nodup ∧ gl ∉ gs ∧ ∀ x ∈ gs, H1 x = none)
        ⟨same_new hgl, [], upd_same, True.intro, List.nodup_nil, fun m => (nomatch m), fun _ m => (nomatch m)⟩ (fun j H2 _ h => SqL.of (h.1 _ _ k1.hg)) ?_ ?_
      · rintro j y H2 hj ⟨s2, gs, e2, sl, gnd, gln, gfr⟩
        rw [List.getElem?_map] at hj
        obtain ⟨g0, hg0, rfl⟩ := Option.map_eq_some_iff.mp hj
        obtain ⟨xs, hxs, eg0⟩ := StrLs.look k1.hgs hg0
        refine ⟨rfl, _, rfl, g0, _, rfl, .inl (SqL.of (s2 _ _ eg0)), fun l hl => ?_⟩
        have sl2 := same_new (o := .lst (xs.map V.str)) hl
        have el : upd H2 l (.lst (xs.map V.str)) l = some (.lst (xs.map V.str)) := upd_same
        have e3 := sl2 _ _ e2
        have gl0 : (gs.map V.ref).length ≤ 5 := by
          have := sl.len
          rw [List.length_map, this, List.length_take, List.length_map]
          omega
        have ngl : gl ≠ l := ne_of_none e2 hl
        refine ⟨_, e3, small1000 (by omega), fun b o e => ?_, gs ++ [l], by rw [upd_same, List.map_append]; rfl, ?_, nd_snoc gnd fun m => ?_, fun m => ?_, fun x hx => ?_⟩
        · rw [upd_ne (ne_of_none e hgl)]
          exact sl2 _ _ (s2 b o e)
        · have tk : (kd.ng.map (·.2)).take (j + 1) = (kd.ng.map (·.2)).take j ++ [xs] := by rw [List.take_add_one, hxs]; rfl
          rw [tk]
          have up : ∀ x ∈ gs ++ [l], ∀ o, upd H2 l (.lst (xs.map V.str)) x = some o → upd (upd H2 l (.lst (xs.map V.str))) gl (.lst (gs.map V.ref ++ [.ref l])) x = some o := fun x hx o e => by
            rw [upd_ne (fun z => ?_)]
            · exact e
            · rw [z] at hx
              rcases List.mem_append.mp hx with m | m
              · exact gln m
              · exact ngl (List.mem_singleton.mp m)
          exact (StrLs.snoc el (sl.keep sl2)).on up
        · obtain ⟨o, e⟩ := sl.mem m
          rw [hl] at e
          cases e
        · rcases List.mem_append.mp m with m | m
          · exact gln m
          · exact ngl (List.mem_singleton.mp m)
        · rcases List.mem_append.mp hx with m | m
          · exact gfr x m
          · rw [List.mem_singleton.mp m]
            exact s2.free hl
      rintro H2 ⟨s2, gs, e2, sl, gnd, gln, gfr⟩
      rw [List.length_map, List.take_of_length_le (by rw [List.length_map]; omega)] at sl
      have hlen := ho.1
      have nms : (ks.map (·.nm)).Nodup := kok.names
      -- the offers
      refine ⟨_, rfl, lo, rfl, ⟨_, SqL.of (s2 _ _ (s1 _ _ hlo))⟩, for_list (K := K) (a := lo) (xs := ys)
        (fun j σ H3 => Same H1 H3 ∧ H3 gl = some (.lst (gs.map V.ref)) ∧ StrLs H3 gs ((taken (os.take j) kd).ng.map (·.2)) ∧ ∃ v4 v6 : Option V, σ = [some (.ref kl), some (.ref lo), some (.ref D), some (.ref a.u), v4, some (.ref gl), v6])
        ⟨s2, e2, sl, _, _, rfl⟩ (fun j σ H3 _ h => SqL.of (h.1 _ _ (s1 _ _ hlo))) ?_ ?_⟩
      · rintro j y σ H3 hj ⟨s3, e3, sl3, v4, v6, rfl⟩
        obtain ⟨o, hoj⟩ : ∃ o, os[j]? = some o := ⟨_, List.getElem?_eq_getElem (by have := (List.getElem?_eq_some_iff.mp hj).1; omega)⟩
        obtain ⟨t, rfl, ht⟩ := ho.2 j _ o hj hoj
        have s13 := s1.trans s3
        have ht := s13 _ _ ht
        have k3 := ka.keep s13
        refine ⟨_, rfl, t, _, 0, _, rfl, rfl, SqT.of ht, at_c (j := 0) rfl rfl, _, rfl, a.u, _, 0, _, rfl, rfl, SqL.of k3.hu, at_c (j := 0) rfl rfl, rfl, _, rfl, ?_⟩
        by_cases en : o.1 = kd.nm
        · obtain ⟨k0, mk0, en0, ms0⟩ := oko o (List.mem_of_getElem? hoj)
          have ek : k0 = kd := by
            obtain ⟨j0, hj0⟩ := List.mem_iff_getElem?.mp mk0
            have := nd_ix nms (x := kd.nm) (by rw [List.getElem?_map, hj0, ← en, ← en0]; rfl) (by rw [List.getElem?_map, hk]; rfl)
            subst this
            rw [hj0] at hk
            exact Option.some.inj hk
          subst ek
          obtain ⟨r, hr⟩ := List.mem_iff_getElem?.mp ms0
          have rl : r < k0.ss.length := (List.getElem?_eq_some_iff.mp hr).1
          have snd := ok.nd
          obtain ⟨tn, to, tss, tst⟩ := taken_same (os.take j) k0
          obtain ⟨p, hp⟩ : ∃ p, (taken (os.take j) k0).ng[r]? = some p := ⟨_, List.getElem?_eq_getElem (by rw [taken_ln]; omega)⟩
          have hp2 : ((taken (os.take j) k0).ng.map (·.2))[r]? = some p.2 := by rw [List.getElem?_map, hp]; rfl
          obtain ⟨gr, hgr, egr⟩ := sl3.get hp2
          have mgr := List.mem_of_getElem? hgr
          have eg : (taken (os.take (j + 1)) k0).ng.map (·.2) = ((taken (os.take j) k0).ng.map (·.2)).set r (addOnce p.2 o.2.2) := by
            rw [taken_more hoj, give_at (by rw [tss]; exact snd) (tn.trans en.symm) (by rw [tss]; exact hr) hp]
            show ((taken (os.take j) k0).ng.set r (p.1, addOnce p.2 o.2.2)).map (·.2) = _
            rw [List.map_set]
          have pl : p.2.length ≤ 8 := by
            have q := taken_ok (os := os.take j) (fun q hq => ⟨(ok.ng q hq).1, (ok.ng q hq).2.1⟩) (m1 := 5) (m2 := 5) (fun q hq => smk q hq) p (List.mem_of_getElem? hp)
            have : (os.take j).length ≤ 3 := by rw [List.length_take]; omega
            omega
          refine yes (decide_eq_true (by rw [en])) ⟨_, rfl, _, rfl, a.u, _, 2, .ref a.l, rfl, rfl, SqL.of k3.hu, at_c (j := 2) rfl rfl, .inl ⟨rfl, _, SqL.of k3.hl⟩, _, rfl, t, _, 1, _, rfl, rfl, SqT.of ht, at_c (j := 1) rfl rfl, a.l, _, _, r, .str o.2.1, rfl, rfl, SqL.of k3.hl, rfl, flat_strs _, by rw [List.getElem?_map, hr]; rfl, by rw [eqV_str]; exact decide_eq_true rfl, fun m z' hm hz' => ?_, gl, _, _, _, rfl, rfl, SqL.of e3, at_r hgr rfl, ?_⟩
          · obtain ⟨z, hz, rfl⟩ := get_strs2 hz'
            rw [eqV_str]
            refine decide_eq_false fun q => ?_
            subst q
            have := nd_ix snd hz hr
            omega
          refine ⟨_, rfl, t, _, 2, _, rfl, rfl, SqT.of ht, at_c (j := 2) rfl rfl, _, rfl, gr, _, rfl, .inl (SqL.of egr), rfl, flat_strs _, _, rfl, ?_⟩
          rw [inV_strs]
          by_cases hm : o.2.2 ∈ p.2
          · rw [decide_eq_true hm]
            refine no rfl ⟨s3, e3, ?_, _, _, rfl⟩
            have ea : addOnce p.2 o.2.2 = p.2 := by unfold addOnce; rw [if_pos hm]
            rw [eg, ea]
            have es : ((taken (os.take j) k0).ng.map (·.2)).set r p.2 = (taken (os.take j) k0).ng.map (·.2) := by
              refine List.ext_getElem? fun m => ?_
              by_cases e : r = m
              · subst e
                rw [List.getElem?_set_self (List.getElem?_eq_some_iff.mp hp2).1, hp2]
              · rw [List.getElem?_set_ne e]
            rw [es]
            exact sl3
          · rw [decide_eq_false hm]
            have ea : addOnce p.2 o.2.2 = p.2 ++ [o.2.2] := by unfold addOnce; rw [if_neg hm]
            have up : p.2.map V.str ++ [V.str o.2.2] = (p.2 ++ [o.2.2]).map V.str := by rw [List.map_append]; rfl
            refine yes rfl ⟨_, rfl, .inl ⟨rfl, _, SqL.of egr⟩, _, rfl, t, _, 2, _, rfl, rfl, SqT.of ht, at_c (j := 2) rfl rfl, gr, _, _, rfl, rfl, egr, small1000 (by rw [List.length_map]; omega), fun b q e => ?_, ?_, ?_, _, _, rfl⟩
            · rw [upd_ne (ne_of_none e (gfr gr mgr))]
              exact s3 b q e
            · rw [upd_ne (fun z => gln (by rw [z]; exact mgr))]
              exact e3
            · rw [eg, ea, up]
              exact sl3.set gnd hgr
        · refine no (decide_eq_false fun q => en (by injection q)) ⟨s3, e3, ?_, _, _, rfl⟩
          have eg : taken (os.take (j + 1)) kd = taken (os.take j) kd := by
            rw [taken_more hoj]
            unfold give
            rw [if_neg (by rw [(taken_same _ kd).1]; exact en)]
          rw [eg]
          exact sl3
      · rintro σ H3 ⟨s3, e3, sl3, v4, v6, rfl⟩
        rw [hlen, List.take_length] at sl3
        have s13 := s1.trans s3
        have k3 := ka.keep s13
        have eD3 := s3 _ _ eD
        have bl : bs.length ≤ 11 := by
          have := hbs.len
          rw [this, List.length_map, List.length_take]
          omega
        refine ⟨_, rfl, .inl ⟨rfl, _, SqL.of eD3⟩, _, rfl, _, rfl, a.u, _, rfl, SqL.of k3.hu, fun p1 hp1 => ?_⟩
        have ec : cutV [V.str kd.nm, .bl kd.one, .ref a.l, .ref a.q, .ref a.n, .ref a.g] none (some 5) = [V.str kd.nm, .bl kd.one, .ref a.l, .ref a.q, .ref a.n] := by
          rw [show (5 : Int) = ((5 : Nat) : Int) from rfl, cutV_take]
          rfl
        rw [ec]
        have sp1 := same_new (o := .lst [V.str kd.nm, .bl kd.one, .ref a.l, .ref a.q, .ref a.n]) hp1
        have ep1 : upd H3 p1 (.lst [V.str kd.nm, .bl kd.one, .ref a.l, .ref a.q, .ref a.n]) p1 = _ := upd_same
        generalize upd H3 p1 (.lst [V.str kd.nm, .bl kd.one, .ref a.l, .ref a.q, .ref a.n]) = H4 at sp1 ep1 ⊢
        refine ⟨_, rfl, (by show 1 ≤ sizeLine; decide), fun p2 hp2 => ?_⟩
        have sp2 := same_new (o := .lst [V.ref gl]) hp2
        have ep2 : upd H4 p2 (.lst [V.ref gl]) p2 = _ := upd_same
        have ep1' := sp2 _ _ ep1
        generalize upd H4 p2 (.lst [V.ref gl]) = H5 at sp2 ep2 ep1' ⊢
        refine ⟨p1, p2, _, _, rfl, rfl, ep1', ep2, (by show 6 ≤ sizeLine; decide), fun u hu => ?_⟩
        have su := same_new (o := .lst ([V.str kd.nm, .bl kd.one, .ref a.l, .ref a.q, .ref a.n] ++ [V.ref gl])) hu
        have eu : upd H5 u (.lst ([V.str kd.nm, .bl kd.one, .ref a.l, .ref a.q, .ref a.n] ++ [V.ref gl])) u = some (.lst [V.str kd.nm, .bl kd.one, .ref a.l, .ref a.q, .ref a.n, .ref gl]) := upd_same
        have s36 := (sp1.trans sp2).trans su
        generalize upd H5 u (.lst ([V.str kd.nm, .bl kd.one, .ref a.l, .ref a.q, .ref a.n] ++ [V.ref gl])) = H6 at su eu s36 ⊢
        have s16 := s3.trans s36
        have s06 := s1.trans s16
        have eD6 := s16 _ _ eD
        have nu1 : H1 u = none := s3.free (sp1.free (sp2.free hu))
        have nu3 : H3 u = none := sp1.free (sp2.free hu)
        have k6 := ka.keep s06
        obtain ⟨tn, to, tss, tst⟩ := taken_same os kd
        have old : ∀ x ∈ a.fp, ∃ o, H1 x = some o := fun x hx => by
          obtain ⟨o, e⟩ := ka.tracked x hx
          exact ⟨o, s1 _ _ e⟩
        have nd0 := ka.nd
        have kA : KdAt H6 ⟨u, a.l, a.q, a.n, gl, a.ns, gs⟩ (taken os kd) := by
          refine ⟨by rw [tn, to]; exact eu, by rw [tss]; exact k6.hl, by rw [tst]; exact k6.hq, k6.hn, ?_, s36 _ _ e3, sl3.keep s36, ?_⟩
          · have en : (taken os kd).ng.map (·.1) = kd.ng.map (·.1) := taken_needs os kd
            rw [en]
            exact k6.hns
          · have out : ∀ x, H1 x = none → x ∉ a.fp := fun x hx m => by
              obtain ⟨o, e⟩ := old x m
              rw [hx] at e
              cases e
            have ou := out u nu1
            have og := out gl hgl
            have ogs : ∀ x ∈ gs, x ∉ a.fp := fun x hx => out x (gfr x hx)
            have ngu : gl ≠ u := ne_of_none e3 nu3
            have ugs : u ∉ gs := fun m => by
              obtain ⟨o, e⟩ := sl3.mem m
              rw [nu3] at e
              cases e
            unfold KA.fp at nd0 ou og ogs ⊢
            simp only [List.nodup_cons, List.mem_cons, List.mem_append, not_or, List.nodup_append] at nd0 ou og ⊢
            simp only [List.mem_cons, List.mem_append, not_or] at ogs
            obtain ⟨⟨a1, a2, a3, a4, a5, a6⟩, ⟨b1, b2, b3, b4, b5⟩, ⟨c1, c2, c3, c4⟩, ⟨d1, d2, d3⟩, ⟨f1, f2⟩, g1, g2, g3⟩ := nd0
            obtain ⟨u0, u1, u2, u3, u4, u5, u6⟩ := ou
            obtain ⟨v0, v1, v2, v3, v4, v5, v6⟩ := og
            have q1 : ∀ x ∈ gs, x ≠ a.l := fun x hx => (ogs x hx).2.1
            have q2 : ∀ x ∈ gs, x ≠ a.q := fun x hx => (ogs x hx).2.2.1
            have q3 : ∀ x ∈ gs, x ≠ a.n := fun x hx => (ogs x hx).2.2.2.1
            have q4 : ∀ x ∈ gs, x ∉ a.ns := fun x hx => (ogs x hx).2.2.2.2.2.1
            exact ⟨⟨u1, u2, u3, fun z => ngu z.symm, u5, ugs⟩, ⟨b1, b2, fun z => v1 z.symm, b4, fun m => q1 _ m rfl⟩, ⟨c1, fun z => v2 z.symm, c3, fun m => q2 _ m rfl⟩, ⟨fun z => v3 z.symm, d2, fun m => q3 _ m rfl⟩, ⟨v5, gln⟩, g1, gnd, fun x hx y hy z => q4 y hy (by rw [← z]; exact hx)⟩
        have fpA : ∀ x ∈ (⟨u, a.l, a.q, a.n, gl, a.ns, gs⟩ : KA).fp, H1 x = none ∨ x ∈ a.fp := fun x hx => by
          unfold KA.fp at hx ⊢
          simp only [List.mem_cons, List.mem_append] at hx ⊢
          rcases hx with rfl | rfl | rfl | rfl | rfl | hx | hx
          · exact .inl nu1
          · exact .inr (.inr (.inl rfl))
          · exact .inr (.inr (.inr (.inl rfl)))
          · exact .inr (.inr (.inr (.inr (.inl rfl))))
          · exact .inl hgl
          · exact .inr (.inr (.inr (.inr (.inr (.inr (.inl hx))))))
          · exact .inl (gfr x hx)
        have bsl : bs.length = i := by
          have := hbs.len
          have il := (List.getElem?_eq_some_iff.mp hk).1
          rw [this, List.length_map, List.length_take]
          omega
        have nod' : ∀ b ∈ bs ++ [(⟨u, a.l, a.q, a.n, gl, a.ns, gs⟩ : KA)], D ∉ b.fp := fun b hb hx => by
          rcases List.mem_append.mp hb with m | m
          · exact nod b m hx
          · rw [List.mem_singleton.mp m] at hx
            rcases fpA D hx with q | q
            · rw [eD] at q; cases q
            · obtain ⟨o, e⟩ := ka.tracked D q
              rw [hD] at e; cases e
        refine ⟨D, _, _, rfl, rfl, eD6, small1000 (by rw [refsK_len]; omega), fun b o e => by rw [upd_ne (ne_of_none e hD)]; exact s06 b o e, bs ++ [⟨u, a.l, a.q, a.n, gl, a.ns, gs⟩], _, _, _, _, by rw [upd_same]; unfold refsK; rw [List.map_append]; rfl, ?_, fun j b a' hb ha' x hx => ?_, nod', rfl⟩
        · rw [takeK hk, List.map_append]
          refine KdsAt.off1 eD6 (KdsAt.snoc kA (hbs.keep s16) fun b hb x hx hx' => ?_) nod'
          obtain ⟨j, hj⟩ := List.mem_iff_getElem?.mp hb
          have jl := (List.getElem?_eq_some_iff.mp hj).1
          obtain ⟨a', ha'⟩ : ∃ a', as[j]? = some a' := ⟨_, List.getElem?_eq_getElem (by have := (List.getElem?_eq_some_iff.mp ha).1; omega)⟩
          rcases fpA x hx' with q | q
          · obtain ⟨o, e⟩ := hbs.tracked b hb x hx
            rw [q] at e; cases e
          · rcases hsh j b a' hj ha' x hx with q2 | q2
            · obtain ⟨o, e⟩ := ka.tracked x q
              rw [q2] at e; cases e
            · exact hks.apart ha' ha (by omega) q2 q
        · by_cases lt : j < bs.length
          · rw [List.getElem?_append_left lt] at hb
            exact hsh j b a' hb ha' x hx
          · rw [List.getElem?_append_right (by omega)] at hb
            have ej : j = i := by
              have := (List.getElem?_eq_some_iff.mp hb).1
              simp at this
              omega
            subst ej
            rw [bsl, Nat.sub_self] at hb
            cases hb
            rw [ha] at ha'
            cases ha'
            rcases fpA x hx with q | q
            · exact .inl (s1.free q)
            · exact .inr q
    · rintro σ H1 ⟨s1, bs, v3, v4, v5, v6, eD, hbs, hsh, nod, rfl⟩
      have e : ks.take (refsK as).length = ks := by rw [refsK_len, al, List.take_length]
      rw [e] at hbs
      exact ⟨_, rfl, k D bs H1 s1 hD eD hbs⟩
end
end Yd
namespace Yd
open PySem L2
/-! ### what has just been made is locked, and unlocked behind -/
section
variable {X : Cx}
/-- behind e a thing is locked -/
def tLkE (t : TE) : TE := fun σ H Q => t σ H fun v H1 => ∃ d u, H1 d = some u ∧ Mut (some u) ∧ ∀ od, Q v (upd H1 d (.frz od u))
theorem pe_lk {e : Expr} {t : TE} (h : PE X e t) : PE X e (tLkE t) := by
  refine ⟨fun pins s σ H Q I hw => thn (h.run pins s σ H _ I hw) fun v s1 ⟨x, H1, I2, r, d, u, hd, mu, q⟩ => ?_⟩
  obtain ⟨od, I3⟩ := I2.lock hd mu
  exact ⟨x, _, I3, r, q od⟩
/-- a thing that was not there before may be left locked -/
def UnF (H H' : Hp) (Q : Hp → Prop) : Prop := ∃ d od u, H d = none ∧ H' d = some (.frz od u) ∧ Q (upd H' d u)
theorem unf_inv {pins : List (Addr × Obj)} {σ σ' : L2.St} {H H' : Hp} {s s' : Shared} {Q : Hp → Prop} (I : Inv X pins σ H s) (J : Inv X pins σ' H' s') (h : UnF H H' Q) : ∃ H2, Inv X pins σ' H2 s' ∧ Q H2 := by
  obtain ⟨d, od, u, hd, e, q⟩ := h
  refine ⟨_, J.unlock e fun o' u' z => ?_, q⟩
  have w := I.base.frzs d o' u' z
  rw [hd] at w
  cases w
def tUnE (t : TE) : TE := fun σ H Q => t σ H fun v H' => UnF H H' (Q v)
theorem pe_unf {e : Expr} {t : TE} (h : PE X e t) : PE X e (tUnE t) := by
  refine ⟨fun pins s σ H Q I hw => thn (h.run pins s σ H _ I hw) fun v s1 ⟨x, H1, I2, r, q⟩ => ?_⟩
  obtain ⟨H2, J, q⟩ := unf_inv I I2 q
  exact ⟨x, H2, J, r, q⟩
def tUnS (t : TS) : TS := fun D σ H => t ⟨fun σ' H' => UnF H H' (D.nx σ'), fun v H' => UnF H H' (D.rt v), fun σ' H' => UnF H H' (D.bk σ'), fun σ' H' => UnF H H' (D.ct σ')⟩ σ H
theorem ps_un {st : Stmt} {t : TS} (h : PS X st t) : PS X st (tUnS t) := by
  refine ⟨fun pins s σ H D I hw => thn (h.run pins s σ H _ I hw) fun f s1 q => ?_⟩
  cases f with
  | next => obtain ⟨σ', H', I2, q⟩ := q; obtain ⟨H2, J, q⟩ := unf_inv I I2 q; exact ⟨σ', H2, J, q⟩
  | brk => obtain ⟨σ', H', I2, q⟩ := q; obtain ⟨H2, J, q⟩ := unf_inv I I2 q; exact ⟨σ', H2, J, q⟩
  | cont => obtain ⟨σ', H', I2, q⟩ := q; obtain ⟨H2, J, q⟩ := unf_inv I I2 q; exact ⟨σ', H2, J, q⟩
  | ret v => obtain ⟨x, σ', H', I2, r, q⟩ := q; obtain ⟨H2, J, q⟩ := unf_inv I I2 q; exact ⟨x, σ', H2, J, r, q⟩
end
end Yd
namespace Yd
open PySem L2
/-! ### the law of offers: site and reckoning agree -/
structure SiteIs (K : PySem.W.Frag) (CS : Addr) : Prop where
  ca : PySem.W.findIn K (.ref CS) "__class__" = some (some (.builtin "object.__class__"))
  cn : PySem.W.specialIn K (.builtin "object.__class__") "__get__" = some (some (.builtin "getset_descriptor.__get__"))
  ct : PySem.W.takesIn K (.builtin "object.__class__") = some true
  cm : PySem.W.mroIn K CS (.type "object") = some true
  kS : PySem.W.kitOne K (.ref CS) (.ref CS) = some true
theorem SiteAt.ty {K : PySem.W.Frag} {n : Kn} {CS s : Addr} {H : Hp} {d : SD} {xs : List PX} {ks : List KD} (h : SiteAt H n CS s d xs ks) (sc : SCls K CS) (i : SiteIs K CS) : TyX K H (.ref s) (.ref CS) :=
  let ⟨_, e⟩ := h.ins; .base (.ins e sc.cls i.ca i.cn i.ct i.cm)
def spAgrees (K : PySem.W.Frag) (n : Kn) (CS : Addr) : Sp := fun vs H Q _ => ∃ (s : Addr) (d : SD) (kl pl hl : Addr) (as : List KA) (ks : List KD) (ys : List PX) (ps : List Str) (hs : List Pr), vs = [.ref s, .ref kl, .ref pl, .ref hl] ∧ H kl = some (.lst (refsK as)) ∧ KdsAt H as ks ∧ KdsOk ks ∧ ks.length ≤ 11 ∧
  SiteAt H n CS s d ys ks ∧ SqT K H pl (ps.map V.str) ∧ PlOk ks ps ∧ (∀ y ∈ ps, y.length ≤ 100) ∧ ListP K H hl hs ∧ hs.Nodup ∧ (∀ q ∈ hs, q ∈ spotsL ks) ∧ hs.length ≤ 500 ∧ ∀ H', Same H H' → Q (.bl true) H'
section
variable {P : Program} {w : World} {K : PySem.W.Frag} {mg : Str → Option Value} {base : Heap}
def nAgrees : List Str := ["_law_site", "_law_kinds_here", "_law_places_here", "_law_held", "_law_kind_here", "_law_spot", "_law_due", "_law_told"]
theorem scAgrees : FnScope nAgrees ["_law_site", "_law_kinds_here", "_law_places_here", "_law_held"] (defScope sAgrees) := ⟨rfl, rfl, rfl, by decide +kernel, rfl, by decide +kernel, by decide +kernel⟩
theorem ok_agrees {f fPr fIs fO fU fSi fSp fLs fLo fLu CS CH : Addr} {fd dPr dIs dO dU dSi dSp dLs dLo dLu : FuncData} {n : Kn} (F : Fun K "_law_agrees" "_law_agrees" sAgrees f fd) (B : Blt mg) (hT : mg "tuple" = none) (hI : mg "isinstance" = none) (sc : SCls K CS) (si : SiteIs K CS) (gS : mg "Site" = some (.ref CS)) (c : HoldC P w K mg base CH)
    (TPr : Fn K mg "_law_present" sPresent ["_law_kinds_here", "_law_places_here", "_law_held"] fPr dPr) (TIs : Fn K mg "_law_is_tuple" sIsTuple ["_law_actual", "_law_expected"] fIs dIs)
    (mSi : Meth K CS "singles" fSi) (GSi : FnOk P w K mg base CX0 2 fSi dSi ["self"] (spSingles n CS)) (bSi : Binds K dSi ["self"] [])
    (mSp : Meth K CS "spots" fSp) (GSp : FnOk P w K mg base CX0 4 fSp dSp ["self"] (spSpots n CS CH)) (bSp : Binds K dSp ["self"] [])
    (mO : Meth K CS "opened" fO) (GO : FnOk P w K mg base CX0 7 fO dO ["self", "places", "hold"] (spOpened K n CS CH)) (bO : Binds K dO ["self", "places", "hold"] [])
    (mU : Meth K CS "unmet" fU) (GU : FnOk P w K mg base CX0 8 fU dU ["self", "places", "hold"] (spUnmet K n CS CH)) (bU : Binds K dU ["self", "places", "hold"] [])
    (TSp : Fn K mg "_law_spots" sSpots ["_law_kinds_here"] fLs dLs) (TOp : Fn K mg "_law_opened" sOpened ["_law_kinds_here", "_law_places_here", "_law_held"] fLo dLo) (TUn : Fn K mg "_law_unmet" sUnmet ["_law_kinds_here", "_law_places_here", "_law_held"] fLu dLu) :
    FnOk P w K mg base CX0 9 f fd ["_law_site", "_law_kinds_here", "_law_places_here", "_law_held"] (spAgrees K n CS) := by
  have GIs : FnOk P w K mg base CX0 1 fIs dIs ["_law_actual", "_law_expected"] (spIsTuple K) := ok_isTuple TIs.F hI hT
  have GLs : FnOk P w K mg base CX0 1 fLs dLs ["_law_kinds_here"] spLSpots := ok_lSpots TSp.F
  have GOp : FnOk P w K mg base CX0 2 fLo dLo ["_law_kinds_here", "_law_places_here", "_law_held"] (spLOpened K) := ok_lOpened TOp.F B hT TPr
  have GUn : FnOk P w K mg base CX0 2 fLu dLu ["_law_kinds_here", "_law_places_here", "_law_held"] (spLUnmet K) := ok_lUnmet TUn.F B TPr
  obtain ⟨fn, fdn, e0, ee, M, GN, bN, _⟩ := c.ini
  obtain ⟨fi, fl, fdi, fdl, hc, GI, bI, GL, bL⟩ := c.st
  refine F.ok scAgrees (fun vs H Q E h => ?_) (fun cdv A outer s H vs Q E' hr h => ?_)
  · obtain ⟨s, d, kl, pl, hl, as, ks, ys, ps, hs, rfl, _⟩ := h
    rfl
  · obtain ⟨s, d, kl, pl, hl, as, ks, ys, ps, hs, rfl, hkl, hks, kok, k11, st, hpl, po, p12, hhl, hnd, hsub, h500, k⟩ := h
    have hu := units65 hr
    have r1 : Room 1 _ := hr.mono (by decide)
    have r2 : Room 2 _ := hr.mono (by decide)
    have r4 : Room 4 _ := hr.mono (by decide)
    have r7 : Room 7 _ := hr.mono (by decide)
    refine ⟨_, pss_cons (ps_if (pt_not (pt_val (pe_callB (r := rIsi K) call_isi (by rfl) hI (by decide +kernel) (pa_cons (pv 0) (pa_cons (pe_glob (v := .ref CS) (by rfl) gS rfl) pa_nil))))) (pss_one (ps_ret pe_bl)) pss_nil)
      (pss_cons (ps_if (pt_not (pt_val (pe_call GIs r1 rfl TIs.g TIs.F.kp TIs.b .nil pass0 (pa_cons (pe_meth0 (pv 0) sc.cls mSi GSi r2 bSi .nil pass0) (pa_cons (pe_callTy call_tuple_of (by rfl) hT (by decide +kernel) (pa_cons
          (pe_lc (own := [("_law_kind_here", 4)]) (g := gName 4) (tt := tTest (tOp (rIxL K) (tVar 4) (tC (.int 1)))) (te := tOp (rIxL K) (tVar 4) (tC (.int 0))) rfl scAgrees.nd (pi_list (pv 1)) (blkOk_by (N := nAgrees) (sc := defScope sAgrees) (by decide +kernel)) (fun _ _ _ _ _ => pg_name (i := 4) scAgrees.nd rfl (Or.inl rfl))
            (fun _ _ _ _ _ => pts_one (pt_val (pe_ix (r := rIxL K) ix_list (pv 4) pe_int (fun _ _ => rfl)))) (fun _ _ _ _ _ => pe_ix (r := rIxL K) ix_list (pv 4) pe_int (fun _ _ => rfl))) pa_nil)) pa_nil))))) (pss_one (ps_ret pe_bl)) pss_nil)
      (pss_cons (ps_if (pt_cmpR (op_neS hr.units) (pe_unf (pe_lc (own := [("_law_spot", 5)]) (g := gName 5) (tt := tYes) (te := tVar 5) rfl scAgrees.nd (pi_own (pe_lk (pe_meth0 (pv 0) sc.cls mSp GSp r4 bSp .nil pass0)) hc.it.at_ hc.it.fn GI r1 bI) (blkOk_by (N := nAgrees) (sc := defScope sAgrees) (by decide +kernel)) (fun _ _ _ _ _ => pg_name (i := 5) scAgrees.nd rfl (Or.inl rfl)) (fun _ _ _ _ _ => pts_nil) (fun _ _ _ _ _ => pv 5)))
          (pe_call GLs r1 rfl TSp.g TSp.F.kp TSp.b .nil pass0 (pa_cons (pv 1) pa_nil)) (nomark _)) (pss_one (ps_ret pe_bl)) pss_nil)
      (pss_cons (ps_if (pt_not (pt_val (pe_call GIs r1 rfl TIs.g TIs.F.kp TIs.b .nil pass0 (pa_cons (pe_meth (E := fun _ _ _ => False) (pv 0) sc.cls mO GO r7 bO .nil pass0 (pa_cons (pv 2) (pa_cons (pe_make (E := fun _ _ _ => False) M GN r2 (by rfl) c.g bN .nil pass0 (pa_cons (pv 3) pa_nil)) pa_nil))) (pa_cons (pe_call GOp r2 rfl TOp.g TOp.F.kp TOp.b .nil pass0 (pa_cons (pv 1) (pa_cons (pv 2) (pa_cons (pv 3) pa_nil)))) pa_nil))))) (pss_one (ps_ret pe_bl)) pss_nil)
      (pss_cons (ps_set (i := 6) scAgrees.nd rfl (Or.inl rfl) (pe_call GUn r2 rfl TUn.g TUn.F.kp TUn.b .nil pass0 (pa_cons (pv 1) (pa_cons (pv 2) (pa_cons (pv 3) pa_nil)))))
      (pss_cons (ps_set (i := 7) scAgrees.nd rfl (Or.inl rfl) (pe_meth (E := fun _ _ _ => False) (pv 0) sc.cls mU GU hr bU .nil pass0 (pa_cons (pv 2) (pa_cons (pe_make (E := fun _ _ _ => False) M GN r2 (by rfl) c.g bN .nil pass0 (pa_cons (pv 3) pa_nil)) pa_nil))))
      (pss_cons (ps_if (pt_cmp (pc_isN (pv 6))) (pss_one (ps_ret (pe_cmp (pc_isN (pv 7)) rfl))) pss_nil)
      (pss_one (ps_ret (pe_call GIs r1 rfl TIs.g TIs.F.kp TIs.b .nil pass0 (pa_cons (pv 7) (pa_cons (pv 6) pa_nil))))))))))), ?_⟩
    have al := hks.len
    refine ⟨_, rfl, _, _, _, _, true, rfl, .own CS, st.ty sc si, si.kS, true, rfl, no rfl ?_⟩
    -- the single kinds
    obtain ⟨dx0, es0⟩ := st.ins
    refine ⟨_, rfl, s, dx0, _, rfl, es0, rfl, s, d, ys, ks, rfl, st, by omega, fun q H8 s8 hq8 e8 => ⟨_, rfl, kl, rfl, ⟨_, SqL.of (s8 _ _ hkl)⟩, fun D hD => ?_⟩⟩
    refine lc_list (K := K) (a := kl) (xs := refsK as) (fun i H' => Same H8 H' ∧ H' D = some (.lst ((singlesN (ks.take i)).map V.str))) ⟨same_new hD, upd_same⟩ (fun i H' _ z => SqL.of (z.1 _ _ (s8 _ _ hkl))) ?_ ?_
    · rintro i y H' hi ⟨s9, e9⟩
      obtain ⟨a, ha, rfl⟩ := refsK_at hi
      obtain ⟨kd, hkd, ka⟩ := hks.at_ ha
      have k9 := ka.keep (s8.trans s9)
      refine ⟨rfl, _, rfl, a.u, _, 1, _, rfl, rfl, SqL.of k9.hu, at_c (j := 1) rfl rfl, kd.one, rfl, ite2 (fun ho => ?_) (fun ho => ?_)⟩
      · refine ⟨_, rfl, a.u, _, 0, _, rfl, rfl, SqL.of k9.hu, at_c (j := 0) rfl rfl, _, e9, small1000 ?_, fun b o e => by rw [upd_ne (ne_of_none e hD)]; exact s9 b o e, ?_⟩
        · unfold singlesN
          rw [List.length_map, List.length_map]
          exact Nat.le_trans (List.length_filter_le ..) (by rw [List.length_take]; omega)
        · rw [upd_same]
          unfold singlesN
          rw [filterK_more hkd, if_pos ho, List.map_append, List.map_append]
          rfl
      · refine ⟨s9, ?_⟩
        rw [e9]
        unfold singlesN
        rw [filterK_more hkd, if_neg ho, List.append_nil]
    rintro H9 ⟨s9, e9⟩
    rw [refsK_len, al, List.take_length] at e9
    refine ⟨D, _, rfl, .inl ⟨SqL.of e9, fun t ht => ?_⟩⟩
    have s10 := same_new (o := .tup ((singlesN ks).map V.str)) ht
    have et : upd H9 t (.tup ((singlesN ks).map V.str)) t = some (.tup ((singlesN ks).map V.str)) := upd_same
    generalize upd H9 t (.tup ((singlesN ks).map V.str)) = H10 at s10 et ⊢
    have eq10 := s10 _ _ (s9 _ _ e8)
    refine ⟨q, .ref t, _, _, rfl, eq10, dp_tup (SqT.of eq10), dp_tup (SqT.of et), plain_tup _, depth_tup _, _, rfl, no rfl ?_⟩
    have sA := (s8.trans s9).trans s10
    clear s8 s9 s10 e8 e9 eq10 et hD hq8 ht
    -- the spots
    have stA := st.keep sA
    obtain ⟨dxA, esA⟩ := stA.ins
    have sl110 : (spotsL ks).length ≤ 110 := by
      refine Nat.le_trans (spotsL_len fun k hk => (kok.fit k hk).s10) ?_
      omega
    refine ⟨_, rfl, s, dxA, _, rfl, esA, rfl, s, d, ys, ks, rfl, stA, by omega, kok.fit, fun h dh H11 s11 nh ndh hh => ?_⟩
    have hkA := hks.keep sA
    have nhd : h ≠ dh := (fun q => by
      obtain ⟨dxh, eh⟩ := hh.ins
      exact ne_of eh hh.dict (by intro z; cases z) q)
    obtain ⟨dxh, eh⟩ := hh.ins
    refine ⟨dh, _, hh.dict, True.intro, fun od => ?_⟩
    refine ⟨h, dxh, _, rfl, by rw [upd_ne nhd]; exact eh, fun _ => ⟨h, CH, dxh, dh, od, spotsL ks, rfl, by rw [upd_ne nhd]; exact eh, c.h, upd_same, fun it hit hn => ⟨it, dh, od, _, rfl, hn, upd_same, .inr ⟨_, by rw [upd_ne (ne_of_none upd_same hit)]; exact upd_same, rfl, ?_⟩⟩⟩⟩
    rw [ItX.dropH_upd hit]
    intro Dl hDl
    have nDd : dh ≠ Dl := fun q => by rw [← q, upd_same] at hDl; cases hDl
    have hD0 : H11 Dl = none := by rw [upd_ne nDd.symm] at hDl; exact hDl
    refine lc_spots (fun j H' => (∀ q o, H11 q = some o → q ≠ dh → H' q = some o) ∧ H' dh = some (.frz od (.dT (pD (spotsL ks)))) ∧ ∃ xs, H' Dl = some (.lst xs) ∧ PairsAt H' xs ((spotsL ks).take j))
      ⟨fun q o e1 e2 => by rw [upd_ne (ne_of_none e1 hD0), upd_ne e2]; exact e1, by rw [upd_ne nDd, upd_same], [], upd_same, True.intro⟩ (fun j H' _ h => h.2.1) ?_ ?_
    · rintro j p q H' hp hq ⟨s1, s2, zs, s3, s4⟩
      refine ⟨rfl, _, rfl, zs, s3, small1000 ?_, fun x o e1 e2 => ?_, by rw [upd_ne nDd]; exact s2, _, upd_same, ?_⟩
      · rw [s4.len, List.length_take]
        omega
      · rw [upd_ne (ne_of_none e1 hD0)]
        exact s1 x o e1 e2
      · have nq : ∀ t ys, H' t = some (.tup ys) → upd H' Dl (.lst (zs ++ [.ref q])) t = some (.tup ys) := fun t ys et => by rw [upd_ne (ne_of et s3 (fun z => nomatch z))]; exact et
        rw [takeP hp]
        exact PairsAt.snoc (nq _ _ hq) (s4.keep nq)
    rintro H12 ⟨s12, e12, zs, ez, pz⟩
    rw [List.take_length] at pz
    have s13 := same_unlock hh.dict s12
    have pz13 : PairsAt (upd H12 dh (.dT (pD (spotsL ks)))) zs (spotsL ks) := pz.keep fun t ys et => by rw [upd_ne (ne_of et e12 (fun z => nomatch z))]; exact et
    have ez13 : upd H12 dh (.dT (pD (spotsL ks))) Dl = some (.lst zs) := by rw [upd_ne nDd.symm]; exact ez
    have nAd : _ = none := sA.free (ndh)
    refine ⟨dh, od, _, ?_, e12, ?_⟩
    · first | exact ndh | exact sA.free ndh
    generalize upd H12 dh (.dT (pD (spotsL ks))) = H13 at s13 pz13 ez13 ⊢
    have s0D := (sA.trans s11).trans s13
    refine ⟨_, rfl, kl, as, ks, rfl, s0D _ _ hkl, hks.keep s0D, kok.ok, by omega, fun q14 zs' H14 s14 _ eq14 pq14 => ?_⟩
    refine ⟨_, ListP.dp ⟨_, SqL.of (s14 _ _ ez13), pz13.same s14⟩, ListP.dp ⟨_, SqL.of eq14, pq14⟩, plain_prs _, depth_prs _, _, rfl, no rfl ?_⟩
    have sB := s0D.trans s14
    clear s11 s12 s13 s14 e12 ez ez13 pz pz13 eq14 pq14 hit hD0 hDl hh eh nh ndh nDd nhd esA stA sA s0D nAd hkA
    -- the open doors
    have stB := st.keep sB
    obtain ⟨dxB, esB⟩ := stB.ins
    refine ⟨_, rfl, s, dxB, _, rfl, esB, rfl, _, rfl, _, rfl, fun hx hdx nhx nhdx nhe => hold_new c.h rfl (hhl.keep sB).rows (by omega) nhx nhdx nhe fun d' H3 s3 _ hh => ?_⟩
    rw [onceP_id hnd] at hh
    have sC := sB.trans s3
    refine ⟨s, d, ys, ks, pl, ps, hx, d', hs, rfl, ⟨st.keep sC, k11, kok, same_seqT sC hpl, po, p12, hh, hsub, h500⟩, fun q4 H4 s4 _ e4 => ?_⟩
    have sD := sC.trans s4
    refine ⟨_, rfl, _, rfl, _, rfl, kl, pl, hl, as, ks, ps, hs, rfl, sD _ _ hkl, hks.keep sD, kok, k11, same_seqT sD hpl, po.1, hhl.keep sD, fun q5 H5 s5 nq5 e5 => ?_⟩
    refine ⟨q4, .ref q5, _, _, rfl, s5 _ _ e4, dp_tup (SqT.of (s5 _ _ e4)), dp_tup (SqT.of e5), plain_tup _, depth_tup _, _, rfl, no rfl ?_⟩
    have sE := sD.trans s5
    clear s3 s4 s5 e4 e5 nq5 hh sB sC sD stB esB nhx nhdx nhe
    -- the first unmet need
    refine ⟨_, rfl, _, rfl, _, rfl, kl, pl, hl, as, ks, ps, hs, rfl, sE _ _ hkl, hks.keep sE, kok, k11, same_seqT sE hpl, po.1, hhl.keep sE, fun un H6 s6 => ?_, fun r z un mr mz u H6 s6 nu eu => ?_⟩
    · have sF := sE.trans s6
      have stF := st.keep sF
      obtain ⟨dxF, esF⟩ := stF.ins
      refine ⟨_, rfl, s, dxF, _, rfl, esF, rfl, _, rfl, _, rfl, fun hx hdx nhx nhdx nhe => hold_new c.h rfl (hhl.keep sF).rows (by omega) nhx nhdx nhe fun d' H7 s7 _ hh => ?_⟩
      rw [onceP_id hnd] at hh
      have sG := sF.trans s7
      refine ⟨s, d, ys, ks, pl, ps, hx, d', hs, rfl, ⟨st.keep sG, k11, kok, same_seqT sG hpl, po, p12, hh, hsub, h500⟩, fun _ H8 s8 => ?_, fun r z e => by rw [un] at e; cases e⟩
      exact ⟨_, rfl, _, rfl, yes rfl ⟨_, rfl, by show Q (.bl (decide (V.non = V.non))) H8; rw [decide_eq_true rfl]; exact k H8 (sG.trans s8)⟩⟩
    · have sF := sE.trans s6
      have stF := st.keep sF
      obtain ⟨dxF, esF⟩ := stF.ins
      refine ⟨_, rfl, s, dxF, _, rfl, esF, rfl, _, rfl, _, rfl, fun hx hdx nhx nhdx nhe => hold_new c.h rfl (hhl.keep sF).rows (by omega) nhx nhdx nhe fun d' H7 s7 _ hh => ?_⟩
      rw [onceP_id hnd] at hh
      have sG := sF.trans s7
      refine ⟨s, d, ys, ks, pl, ps, hx, d', hs, rfl, ⟨st.keep sG, k11, kok, same_seqT sG hpl, po, p12, hh, hsub, h500⟩, fun e => by rw [un] at e; (cases e), fun r' z' e q8 H8 s8 _ e8 => ?_⟩
      rw [un] at e
      cases e
      refine ⟨_, rfl, _, rfl, no rfl ⟨_, rfl, _, rfl, q8, .ref u, _, _, rfl, e8, dp_tup (ss := [r.1.1, r.1.2, z]) (SqT.of e8), dp_tup (ss := [r.1.1, r.1.2, z]) (SqT.of (s8 _ _ (s7 _ _ eu))), plain_tup _, depth_tup _, k H8 (sG.trans s8)⟩⟩
end
end Yd
namespace Yd
open PySem L2
/-! ### the law's words: an offer is drawn -/
def spLOffer : Sp := fun vs H Q _ => ∃ (p c kl dl : Addr) (as : List KA) (ks : List KD) (ds : List Str), vs = [.ref p, .ref kl, .ref dl] ∧ Pool H p c ∧ kl ≠ p ∧ dl ≠ p ∧ H kl = some (.lst (refsK as)) ∧ KdsAt (off p H) as ks ∧ KdsOk ks ∧ 0 < ks.length ∧ ks.length ≤ 11 ∧ H dl = some (.lst (ds.map V.str)) ∧ 0 < ds.length ∧ ds.length ≤ 1000 ∧
  ∀ (o : Of) q H', OkOf ks o → o.2.2 ∈ ds → Gro p H H' → Pool H' p c → H q = none → H' q = some (.tup [.str o.1, .str o.2.1, .str o.2.2]) → Q (.ref q) H'
section
variable {P : Program} {w : World} {K : PySem.W.Frag} {mg : Str → Option Value} {base : Heap}
theorem scLOffer : FnScope ["_law_pool_here", "_law_kinds_here", "_law_doors", "_law_kind_here"] ["_law_pool_here", "_law_kinds_here", "_law_doors"] (defScope sOffer) := ⟨rfl, rfl, rfl, by decide +kernel, rfl, by decide +kernel, by decide +kernel⟩
theorem ok_lOffer {f fT : Addr} {fd dT : FuncData} (F : Fun K "_law_offer" "_law_offer" sOffer f fd) (B : Blt mg) (TT : Fn K mg "_law_take" sTake ["_law_pool_here", "_law_size"] fT dT) : FnOk P w K mg base CX0 2 f fd ["_law_pool_here", "_law_kinds_here", "_law_doors"] spLOffer := by
  have GT : FnOk P w K mg base CX0 1 fT dT ["_law_pool_here", "_law_size"] spTake := ok_take TT.F B
  refine F.ok scLOffer (fun vs H Q E h => ?_) (fun cdv A outer s H vs Q E' hr h => ?_)
  · obtain ⟨p, c, kl, dl, as, ks, ds, rfl, _⟩ := h
    rfl
  · obtain ⟨p, c, kl, dl, as, ks, ds, rfl, hP, nkp, ndp, hkl, hks, kok, k0, k11, hdl, d0, d1000, k⟩ := h
    have al := hks.len
    refine ⟨_, pss_cons (ps_set (i := 3) scLOffer.nd rfl (Or.inl rfl) (pe_ix ix_list (pv 1) (pe_call GT hr rfl TT.g TT.F.kp TT.b .nil pass0 (pa_cons (pv 0) (pa_cons (pe_callB (r := rLenQ K) call_len_seq (by rfl) B.len PySem.boot_len (pa_cons (pv 1) pa_nil)) pa_nil))) (fun _ _ => rfl)))
      (pss_one (ps_ret (pe_tup (pa_cons (pe_ix ix_list (pv 3) pe_int (fun _ _ => rfl)) (pa_cons (pe_ix ix_list (pe_ix ix_list (pv 3) pe_int (fun _ _ => rfl)) (pe_call GT hr rfl TT.g TT.F.kp TT.b .nil pass0 (pa_cons (pv 0) (pa_cons (pe_callB (r := rLenQ K) call_len_seq (by rfl) B.len PySem.boot_len (pa_cons (pe_ix ix_list (pv 3) pe_int (fun _ _ => rfl)) pa_nil)) pa_nil))) (fun _ _ => rfl))
        (pa_cons (pe_ix ix_list (pv 2) (pe_call GT hr rfl TT.g TT.F.kp TT.b .nil pass0 (pa_cons (pv 0) (pa_cons (pe_callB (r := rLenQ K) call_len_seq (by rfl) B.len PySem.boot_len (pa_cons (pv 2) pa_nil)) pa_nil))) (fun _ _ => rfl)) pa_nil)))))), ?_⟩
    refine ⟨_, rfl, _, rfl, _, rfl, kl, _, rfl, .inl (SqL.of hkl), p, c, _, rfl, hP, by rw [refsK_len]; omega, by rw [refsK_len]; exact Nat.lt_of_le_of_lt (m := 100) (by omega) (by decide), fun v1 H1 v10 v11 g1 P1 => ?_⟩
    rw [refsK_len] at v11
    obtain ⟨kd, hk⟩ : ∃ kd, ks[v1.toNat]? = some kd := ⟨_, List.getElem?_eq_getElem (by omega)⟩
    obtain ⟨a, ha, ka⟩ := hks.get hk
    have mk := List.mem_of_getElem? hk
    have ok := kok.ok kd mk
    have s0 := ok.s0
    have s5 := ok.s5
    have hkl1 := g1 _ _ hkl nkp
    have k1 := (ka.keep (off_gro g1)).keep off_sub
    refine ⟨kl, _, v1, .ref a.u, rfl, rfl, SqL.of hkl1, at_c (refsK_get ha) (by omega), ?_⟩
    refine ⟨_, rfl, a.u, _, 0, _, rfl, rfl, SqL.of k1.hu, at_c (j := 0) rfl rfl, _, rfl, a.u, _, 2, .ref a.l, rfl, rfl, SqL.of k1.hu, at_c (j := 2) rfl rfl, _, rfl, _, rfl, a.u, _, 2, .ref a.l, rfl, rfl, SqL.of k1.hu, at_c (j := 2) rfl rfl, a.l, _, rfl, .inl (SqL.of k1.hl), p, c, _, rfl, P1, by rw [List.length_map]; omega, by rw [List.length_map]; exact Nat.lt_of_le_of_lt (m := 100) (by omega) (by decide), fun v2 H2 v20 v21 g2 P2 => ?_⟩
    rw [List.length_map] at v21
    obtain ⟨z, hz⟩ : ∃ z, kd.ss[v2.toNat]? = some z := ⟨_, List.getElem?_eq_getElem (by omega)⟩
    have k2 := (ka.keep (off_gro (g1.trans g2))).keep off_sub
    refine ⟨a.l, _, v2, .str z, rfl, rfl, SqL.of k2.hl, at_s hz (by omega), ?_⟩
    have hdl2 := (g1.trans g2) _ _ hdl ndp
    refine ⟨_, rfl, _, rfl, _, rfl, dl, _, rfl, .inl (SqL.of hdl2), p, c, _, rfl, P2, by rw [List.length_map]; omega, by rw [List.length_map]; exact Nat.lt_of_le_of_lt (m := 1000) (by omega) (by decide), fun v3 H3 v30 v31 g3 P3 => ?_⟩
    rw [List.length_map] at v31
    obtain ⟨d, hd⟩ : ∃ d, ds[v3.toNat]? = some d := ⟨_, List.getElem?_eq_getElem (by omega)⟩
    have g13 := (g1.trans g2).trans g3
    refine ⟨dl, _, v3, .str d, rfl, rfl, SqL.of (g13 _ _ hdl ndp), at_s hd (by omega), (by show 3 ≤ sizeLine; decide), fun q hq => ?_⟩
    obtain ⟨nqp, _⟩ := P3.ne hq
    exact k (kd.nm, z, d) q _ ⟨kd, mk, rfl, List.mem_of_getElem? hz⟩ (List.mem_of_getElem? hd) (g13.trans (.new hq)) (P3.new hq) (g13.free hq nqp) upd_same
end
end Yd
namespace Yd
open PySem L2
/-! ### offers drawn one by one -/
theorem OfsAt.snoc {H : Hp} {ys : List V} {os : List Of} {t : Addr} {o : Of} (h : OfsAt H ys os) (e : H t = some (.tup [.str o.1, .str o.2.1, .str o.2.2])) : OfsAt H (ys ++ [.ref t]) (os ++ [o]) := ⟨by rw [List.length_append, List.length_append, h.1]; rfl, fun i y q a b => by
  by_cases c : i < ys.length
  · rw [List.getElem?_append_left c] at a
    rw [List.getElem?_append_left (by rw [← h.1]; exact c)] at b
    exact h.2 i y q a b
  · rw [List.getElem?_append_right (by omega)] at a
    rw [List.getElem?_append_right (by have := h.1; omega), ← h.1] at b
    generalize i - ys.length = j at a b
    match j, a, b with
    | 0, a, b =>
      cases a
      cases b
      exact ⟨t, rfl, e⟩
    | _ + 1, a, _ => simp at a⟩
def OffL (p c Lo : Addr) (ks : List KD) (ds : List Str) (H0 : Hp) (i : Nat) (H' : Hp) : Prop := Gro p H0 H' ∧ Pool H' p c ∧ ∃ (ys : List V) (os : List Of), H' Lo = some (.lst ys) ∧ OfsAt H' ys os ∧ os.length = i ∧ ∀ o ∈ os, OkOf ks o ∧ o.2.2 ∈ ds
theorem offs_start {p c Lo : Addr} {ks : List KD} {ds : List Str} {H0 : Hp} (P : Pool H0 p c) (n : H0 Lo = none) : OffL p c Lo ks ds H0 0 (upd H0 Lo (.lst [])) :=
  ⟨.new n, P.new n, [], [], upd_same, ⟨rfl, fun i y o h => by simp at h⟩, rfl, fun o m => (nomatch m)⟩
theorem offs_next {p c Lo kl dl : Addr} {as : List KA} {ks : List KD} {ds : List Str} {H0 H' : Hp} {i : Nat} (hi : i < 3) (n0 : H0 Lo = none) (nLp : Lo ≠ p) (nLc : Lo ≠ c) (nkp : kl ≠ p) (ndp : dl ≠ p) (hkl : H0 kl = some (.lst (refsK as))) (hks : KdsAt (off p H0) as ks) (kok : KdsOk ks) (k0 : 0 < ks.length) (k11 : ks.length ≤ 11)
    (hdl : H0 dl = some (.lst (ds.map V.str))) (d0 : 0 < ds.length) (d1000 : ds.length ≤ 1000) (inv : OffL p c Lo ks ds H0 i H') :
    spLOffer [.ref p, .ref kl, .ref dl] H' (fun v H4 => ∃ acc, H4 Lo = some (.lst acc) ∧ acc.length < sizeLine ∧ OffL p c Lo ks ds H0 (i + 1) (upd H4 Lo (.lst (acc ++ [v])))) E0 := by
  obtain ⟨g, P, ys, os, eL, ho, ol, ok⟩ := inv
  refine ⟨p, c, kl, dl, as, ks, ds, rfl, P, nkp, ndp, g _ _ hkl nkp, hks.keep (off_gro g), kok, k0, k11, g _ _ hdl ndp, d0, d1000, fun o q H4 oko od g4 P4 hq eq => ?_⟩
  have eL4 := g4 _ _ eL nLp
  have yl := ho.1
  have kt : ∀ b xs, H4 b = some (.tup xs) → upd H4 Lo (.lst (ys ++ [.ref q])) b = some (.tup xs) := fun b xs e => by rw [upd_ne (ne_of e eL4 (fun z => nomatch z))]; exact e
  refine ⟨ys, eL4, small1000 (by omega), fun b u e ne => ?_, P4.off nLp nLc, ys ++ [.ref q], os ++ [o], upd_same, ?_, by rw [List.length_append, ol]; rfl, fun o' m => ?_⟩
  · rw [upd_ne (ne_of_none e n0)]
    exact g4 _ _ (g _ _ e ne) ne
  · exact OfsAt.snoc ((ho.keep fun b xs e => P.noL g4 _ _ e (fun _ z => nomatch z)).keep kt) (kt _ _ eq)
  · rcases List.mem_append.mp m with m | m
    · exact ok o' m
    · rw [List.mem_singleton.mp m]
      exact ⟨oko, od⟩
theorem OfsAt.set {H : Hp} {ys : List V} {os : List Of} {t : Addr} {o : Of} {j : Nat} (h : OfsAt H ys os) (e : H t = some (.tup [.str o.1, .str o.2.1, .str o.2.2])) : OfsAt H (ys.set j (.ref t)) (os.set j o) := ⟨by rw [List.length_set, List.length_set, h.1], fun i y q a b => by
  rw [List.getElem?_set] at a b
  by_cases c : j = i
  · rw [if_pos c] at a b
    split at a
    · cases a
      split at b
      · cases b
        exact ⟨t, rfl, e⟩
      · cases b
    · cases a
  · rw [if_neg c] at a b
    exact h.2 i y q a b⟩
/-- a strange name is no kind's and no standing's -/
theorem strange_kind {ks : List KD} {z : Str} (kok : KdsOk ks) (k6 : ks.length ≤ 6) (nz : NameK 11 z) : ∀ k ∈ ks, k.nm ≠ z := fun k m e => by
  obtain ⟨i, hi⟩ := List.mem_iff_getElem?.mp m
  have := name_inj (kok.nm i k hi) (e ▸ nz)
  have := (List.getElem?_eq_some_iff.mp hi).1
  omega
theorem strange_stand {k : KD} {z : Str} (ok : KdOk k) (nz : NameK 11 z) : z ∉ k.ss := fun m => by
  obtain ⟨i, hi⟩ := List.mem_iff_getElem?.mp m
  have := name_inj (ok.sn i z hi) nz
  have := (List.getElem?_eq_some_iff.mp hi).1
  have := ok.s5
  omega
end Yd
namespace Yd
open PySem L2
/-! ### the law -/
def spLaw (K : PySem.W.Frag) : Sp := fun vs H Q _ => ∃ (a : Addr) (ns : List Int), vs = [.ref a] ∧ SqL K H a (ns.map V.int) ∧ ns.length ≤ 63 ∧ ∀ H', Q (.bl true) H'
theorem four {v : Int} (h0 : 0 ≤ v) (h1 : v < 4) : ∃ n : Nat, atI [V.int 1, V.int 0, V.int 2, V.int 3] v = some (.int (n : Int)) ∧ n ≤ 3 := by
  obtain ⟨j, rfl⟩ : ∃ j : Nat, v = (j : Int) := ⟨v.toNat, by omega⟩
  have hj : j < 4 := by omega
  match j, hj with
  | 0, _ => exact ⟨1, at_c rfl rfl, by omega⟩
  | 1, _ => exact ⟨0, at_c rfl rfl, by omega⟩
  | 2, _ => exact ⟨2, at_c rfl rfl, by omega⟩
  | 3, _ => exact ⟨3, at_c rfl rfl, by omega⟩
  | j + 4, h => omega
theorem most4 {s : Nat} (h : s ≤ 3) : ∃ n : Nat, atI [V.int 5, V.int 5, V.int 5, V.int 3] (s : Int) = some (.int (n : Int)) ∧ 0 < n ∧ n ≤ 5 := by
  match s, h with
  | 0, _ => exact ⟨5, at_c rfl rfl, by omega, by omega⟩
  | 1, _ => exact ⟨5, at_c rfl rfl, by omega, by omega⟩
  | 2, _ => exact ⟨5, at_c rfl rfl, by omega, by omega⟩
  | 3, _ => exact ⟨3, at_c rfl rfl, by omega, by omega⟩
  | s + 4, h => omega
section
variable {P : Program} {w : World} {K : PySem.W.Frag} {mg : Str → Option Value} {base : Heap}
theorem StrLs.app {H : Hp} : ∀ {as bs : List Addr} {xs ys : List (List Str)}, StrLs H as xs → StrLs H bs ys → StrLs H (as ++ bs) (xs ++ ys)
  | [], _, [], _, _, h => h
  | _ :: _, _, _ :: _, _, ⟨h, r⟩, g => ⟨h, StrLs.app r g⟩
  | [], _, _ :: _, _, h, _ => h.elim
  | _ :: _, _, [], _, h, _ => h.elim
theorem StrLs.at_ {H : Hp} : ∀ {as : List Addr} {xss : List (List Str)} {i : Nat} {a : Addr}, StrLs H as xss → as[i]? = some a → ∃ xs, xss[i]? = some xs ∧ H a = some (.lst (xs.map V.str))
  | [], [], _, _, _, h => by simp at h
  | _ :: _, xs :: _, 0, a, ⟨h, _⟩, e => ⟨xs, rfl, by rw [← Option.some.inj e]; exact h⟩
  | _ :: _, _ :: _, i + 1, a, ⟨_, q⟩, e => StrLs.at_ (i := i) q (by simpa using e)
  | [], _ :: _, _, _, h, _ => h.elim
  | _ :: _, [], _, _, h, _ => h.elim
theorem alike_taken (os : List Of) (ks : List KD) : Alike ks (ks.map (taken os)) := by
  unfold Alike
  rw [List.map_map]
  refine List.map_congr_left fun k _ => ?_
  obtain ⟨a, b, c, d⟩ := taken_same os k
  show k.sh = (taken os k).sh
  unfold KD.sh
  rw [a, b, c, d]
theorem one_name {ks : List KD} (nd : (ks.map (·.nm)).Nodup) {k k1 : KD} (m : k ∈ ks) (m1 : k1 ∈ ks) (e : k.nm = k1.nm) : k = k1 := by
  obtain ⟨i, hi⟩ := List.mem_iff_getElem?.mp m
  obtain ⟨j, hj⟩ := List.mem_iff_getElem?.mp m1
  have := nd_ix nd (x := k.nm) (by rw [List.getElem?_map, hi]; rfl) (by rw [List.getElem?_map, hj, e]; rfl)
  subst this
  rw [hi] at hj
  exact Option.some.inj hj
/-- all that the law holds: its world, the places, what is held -/
structure St13 (K : PySem.W.Frag) (H : Hp) (n : Kn) (CS p c kl pa x : Addr) (d : SD) (as : List KA) (ks : List KD) (xs ys : List PX) (pl D : Addr) (ps : List Str) (vs : List V) (hs : List Pr) : Prop where
  W : Wld H n CS p c kl pa x d as ks xs ys
  epl : H pl = some (.tup (ps.map V.str))
  nDp : D ≠ p
  eD : H D = some (.lst vs)
  pD : PairsAt H vs hs
section
variable {H H' : Hp} {n : Kn} {CS p c kl pa x : Addr} {d : SD} {as : List KA} {ks : List KD} {xs ys : List PX} {pl D : Addr} {ps : List Str} {vs : List V} {hs : List Pr}
theorem St13.gro (h : St13 K H n CS p c kl pa x d as ks xs ys pl D ps vs hs) (g : Gro p H H') (P' : Pool H' p c) : St13 K H' n CS p c kl pa x d as ks xs ys pl D ps vs hs :=
  ⟨h.W.gro g P', h.W.P.noL g _ _ h.epl (fun _ z => nomatch z), h.nDp, g _ _ h.eD h.nDp, h.pD.keep fun t ys e => h.W.P.noL g _ _ e (fun _ z => nomatch z)⟩
theorem St13.same (h : St13 K H n CS p c kl pa x d as ks xs ys pl D ps vs hs) (s : Same H H') : St13 K H' n CS p c kl pa x d as ks xs ys pl D ps vs hs := h.gro (.of_same s) (h.W.P.keep (fun _ e => s _ _ e) fun _ e => s _ _ e)
theorem St13.held (h : St13 K H n CS p c kl pa x d as ks xs ys pl D ps vs hs) : ListP K H D hs := ⟨vs, SqL.of h.eD, h.pD⟩
end
def nLaw : List Str := ["_law_script", "_law_pool_here", "_law_singles", "_law_kinds_here", "_law_site", "_law_strange", "_law_places_here", "_law_spot", "_law_held", "_law_doors", "_law_kind_here", "_law_row", "_law_k", "_law_offers", "_law_told", "_law_at", "_law_other", "_law_wrong"]
theorem scLaw : FnScope nLaw ["_law_script"] (defScope sLaw) := ⟨rfl, rfl, rfl, by decide +kernel, rfl, by decide +kernel, by decide +kernel⟩
theorem ok_law {f fPo fT fN fKs fPa fSp fPl fTk fAg fOf fLo f0 CS : Addr} {fd dPo dT dN dKs dPa dSp dPl dTk dAg dOf dLo d0 : FuncData} {n : Kn} (F : Fun K "law" "law" sLaw f fd) (B : Blt mg) (hT : mg "tuple" = none) (hL : mg "list" = none)
    (TP : Fn K mg "_law_pool" sPool ["_law_script"] fPo dPo) (TT : Fn K mg "_law_take" sTake ["_law_pool_here", "_law_size"] fT dT) (TN : Fn K mg "_law_name" sName ["_law_pool_here", "_law_base_here", "_law_k"] fN dN)
    (TKs : Fn K mg "_law_kinds" sKinds ["_law_pool_here", "_law_singles", "_law_manys", "_law_room", "_law_most"] fKs dKs) (GKs : FnOk P w K mg base CX0 4 fKs dKs ["_law_pool_here", "_law_singles", "_law_manys", "_law_room", "_law_most"] spKinds)
    (TPa : Fn K mg "_law_parts" sParts ["_law_kinds_here"] fPa dPa) (GPa : FnOk P w K mg base CX0 7 fPa dPa ["_law_kinds_here"] (spParts n))
    (TSp : Fn K mg "_law_spots" sSpots ["_law_kinds_here"] fSp dSp) (TPl : Fn K mg "_law_places" sPlaces ["_law_pool_here", "_law_kinds_here"] fPl dPl)
    (TTk : Fn K mg "_law_taken" sTaken ["_law_site", "_law_offers"] fTk dTk) (GTk : FnOk P w K mg base CX0 11 fTk dTk ["_law_site", "_law_offers"] (spTaken n CS))
    (TAg : Fn K mg "_law_agrees" sAgrees ["_law_site", "_law_kinds_here", "_law_places_here", "_law_held"] fAg dAg) (GAg : FnOk P w K mg base CX0 9 fAg dAg ["_law_site", "_law_kinds_here", "_law_places_here", "_law_held"] (spAgrees K n CS))
    (TOf : Fn K mg "_law_offer" sOffer ["_law_pool_here", "_law_kinds_here", "_law_doors"] fOf dOf) (TLo : Fn K mg "_law_offered" sOffered ["_law_kinds_here", "_law_offers"] fLo dLo)
    (sc : SCls K CS) (gS : mg "Site" = some (.ref CS)) (MS : Mk K CS f0) (GS0 : FnOk P w K mg base (L2.CX P w) 8 f0 d0 ["self", "kinds"] (spSInit K n)) (bS0 : Binds K d0 ["self", "kinds"] []) : FnOk P w K mg base CX0 12 f fd ["_law_script"] (spLaw K) := by
  have GP : FnOk P w K mg base CX0 1 fPo dPo ["_law_script"] (spPool K) := ok_pool TP.F B
  have GT : FnOk P w K mg base CX0 1 fT dT ["_law_pool_here", "_law_size"] spTake := ok_take TT.F B
  have GN : FnOk P w K mg base CX0 2 fN dN ["_law_pool_here", "_law_base_here", "_law_k"] spName := ok_name TN.F B TT
  have GLs : FnOk P w K mg base CX0 1 fSp dSp ["_law_kinds_here"] spLSpots := ok_lSpots TSp.F
  have GPl : FnOk P w K mg base CX0 2 fPl dPl ["_law_pool_here", "_law_kinds_here"] spLPlaces := ok_lPlaces TPl.F B hT TT
  have GOf : FnOk P w K mg base CX0 2 fOf dOf ["_law_pool_here", "_law_kinds_here", "_law_doors"] spLOffer := ok_lOffer TOf.F B TT
  have GLo : FnOk P w K mg base CX0 1 fLo dLo ["_law_kinds_here", "_law_offers"] spLOffered := ok_lOffered TLo.F hL
  refine F.ok scLaw (fun vs H Q E h => ?_) (fun cdv A outer s H vs Q E' hr h => ?_)
  · obtain ⟨a, ns, rfl, _⟩ := h
    rfl
  · obtain ⟨scr, script, rfl, hS, hlen, k⟩ := h
    have r1 : Room 1 _ := hr.mono (by decide)
    have r2 : Room 2 _ := hr.mono (by decide)
    have r4 : Room 4 _ := hr.mono (by decide)
    have r7 : Room 7 _ := hr.mono (by decide)
    have r9 : Room 9 _ := hr.mono (by decide)
    refine ⟨_, pss_cons (ps_set (i := 1) scLaw.nd rfl (Or.inr rfl) (pe_call GP r1 rfl TP.g TP.F.kp TP.b .nil pass0 (pa_cons (pv 0) pa_nil)))
      (pss_cons (ps_set (i := 2) scLaw.nd rfl (Or.inl rfl) (pe_ix ix_list (pe_lst (pa_cons pe_int (pa_cons pe_int (pa_cons pe_int (pa_cons pe_int pa_nil))))) (pe_call GT r1 rfl TT.g TT.F.kp TT.b .nil pass0 (pa_cons (pv 1) (pa_cons pe_int pa_nil))) (fun _ _ => rfl)))
      (pss_cons (ps_set (i := 3) scLaw.nd rfl (Or.inr rfl) (pe_call GKs r4 rfl TKs.g TKs.F.kp TKs.b .nil pass0 (pa_cons (pv 1) (pa_cons (pv 2)
          (pa_cons (pe_ix ix_list (pe_lst (pa_cons pe_int (pa_cons pe_int (pa_cons pe_int (pa_cons pe_int pa_nil))))) (pe_call GT r1 rfl TT.g TT.F.kp TT.b .nil pass0 (pa_cons (pv 1) (pa_cons pe_int pa_nil))) (fun _ _ => rfl)) (pa_cons pe_int
          (pa_cons (pe_ix ix_list (pe_lst (pa_cons pe_int (pa_cons pe_int (pa_cons pe_int (pa_cons pe_int pa_nil))))) (pv 2) (fun _ _ => rfl)) pa_nil)))))))
      (pss_cons (ps_set (i := 4) scLaw.nd rfl (Or.inl rfl) (pe_make (E := fun _ _ _ => False) MS GS0 r9 (by rfl) gS bS0 .nil passF (pa_cons (pe_call GPa r7 rfl TPa.g TPa.F.kp TPa.b .nil pass0 (pa_cons (pv 3) pa_nil)) pa_nil)))
      (pss_cons (ps_set (i := 5) scLaw.nd rfl (Or.inl rfl) (pe_call GN r2 rfl TN.g TN.F.kp TN.b .nil pass0 (pa_cons (pv 1) (pa_cons pe_str (pa_cons pe_int pa_nil)))))
      (pss_cons (ps_set (i := 6) scLaw.nd rfl (Or.inl rfl) (pe_call GPl r2 rfl TPl.g TPl.F.kp TPl.b .nil pass0 (pa_cons (pv 1) (pa_cons (pv 3) pa_nil))))
      (pss_cons (ps_setLc (i := 8) (own := [("_law_spot", 7)]) (g := gName 7) (tt := tTest (tOp _ (tCall spTake [] (fun _ _ _ => False) (tCons (tVar 1) (tCons (tC (.int 2)) tNil))) (tC (.int 0)))) (te := tVar 7) rfl scLaw.nd rfl rfl (sw_true rfl rfl rfl (by decide +kernel)) (pi_list (pe_call GLs r1 rfl TSp.g TSp.F.kp TSp.b .nil pass0 (pa_cons (pv 3) pa_nil))) (blkOk_by (N := nLaw) (sc := defScope sLaw) (by decide +kernel)) (fun _ _ _ _ _ => pg_name (i := 7) scLaw.nd rfl (Or.inl rfl))
            (fun _ _ _ _ _ => pts_one (pt_cmpR op_eq (pe_call GT r1 rfl TT.g TT.F.kp TT.b .nil pass0 (pa_cons (pv 1) (pa_cons pe_int pa_nil))) pe_int (nomark _))) (fun _ _ _ _ _ => pv 7))
      (C8.pss_cut (ps_if (pt_not (pt_val (pe_call GAg r9 rfl TAg.g TAg.F.kp TAg.b .nil pass0 (pa_cons (pe_call GTk hr rfl TTk.g TTk.F.kp TTk.b .nil pass0 (pa_cons (pv 4) (pa_cons (pe_lst pa_nil) pa_nil))) (pa_cons (pv 3) (pa_cons (pv 6) (pa_cons (pv 8) pa_nil))))))) (pss_one (ps_ret pe_bl)) pss_nil)
      (C8.pss_cut (ps_if (pt_cmpR op_eq (pe_callB (r := rLenQ K) call_len_seq (by rfl) B.len PySem.boot_len (pa_cons (pv 3) pa_nil)) pe_int (nomark _)) (pss_one (ps_ret (pe_cmpR (op_eqS hr.units) (pe_call GTk hr rfl TTk.g TTk.F.kp TTk.b .nil pass0 (pa_cons (pv 4) (pa_cons (pe_lst (pa_cons (pe_tup (pa_cons (pv 5) (pa_cons (pv 5) (pa_cons (pv 5) pa_nil)))) pa_nil)) pa_nil))) (pe_tup (pa_cons pe_str (pa_cons (pv 5) pa_nil))) (nomark _)))) pss_nil)
      (pss_cons (ps_set (i := 9) scLaw.nd rfl (Or.inr rfl) (pe_lst (pa_cons (pv 5) pa_nil)))
      (pss_cons (ps_for PassesOwn.never rfl (pi_list (pv 3)) (pg_name (i := 10) scLaw.nd rfl (Or.inl rfl))
        (pss_one (ps_for PassesOwn.never rfl (pi_list (pe_op op_cat (pe_ix ix_list (pv 10) pe_int (fun _ _ => rfl)) (pe_ix ix_list (pv 10) pe_int (fun _ _ => rfl)))) (pg_name (i := 11) scLaw.nd rfl (Or.inl rfl))
          (pss_one (ps_set (i := 9) scLaw.nd rfl (Or.inr rfl) (pe_op op_cat (pv 9) (pv 11)))))))
      (pss_cons (ps_setLc (i := 13) (own := [("_law_k", 12)]) (g := gName 12) (tt := tYes) rfl scLaw.nd rfl rfl (sw_true rfl rfl rfl (by decide +kernel)) (pi_range1 rfl B.range (pa_cons (pe_op op_sub pe_int (pe_call GT r1 rfl TT.g TT.F.kp TT.b .nil pass0 (pa_cons (pv 1) (pa_cons pe_int pa_nil)))) pa_nil)) (blkOk_by (N := nLaw) (sc := defScope sLaw) (by decide +kernel))
          (fun _ _ _ _ _ => pg_name (i := 12) scLaw.nd rfl (Or.inl rfl)) (fun _ _ _ _ _ => pts_nil) (fun _ _ _ _ _ => pe_call GOf r2 rfl TOf.g TOf.F.kp TOf.b .nil pass0 (pa_cons (pv 1) (pa_cons (pv 3) (pa_cons (pv 9) pa_nil)))))
      (pss_cons (ps_set (i := 14) scLaw.nd rfl (Or.inl rfl) (pe_call GTk hr rfl TTk.g TTk.F.kp TTk.b .nil pass0 (pa_cons (pv 4) (pa_cons (pv 13) pa_nil))))
      (C8.pss_cut (ps_if (pt_not (pt_val (pe_call GAg r9 rfl TAg.g TAg.F.kp TAg.b .nil pass0 (pa_cons (pv 14) (pa_cons (pe_call GLo r1 rfl TLo.g TLo.F.kp TLo.b .nil pass0 (pa_cons (pv 3) (pa_cons (pv 13) pa_nil))) (pa_cons (pv 6) (pa_cons (pv 8) pa_nil))))))) (pss_one (ps_ret pe_bl)) pss_nil)
      (C8.pss_cut (ps_if (pt_not (pt_val (pe_call GAg r9 rfl TAg.g TAg.F.kp TAg.b .nil pass0 (pa_cons (pv 4) (pa_cons (pv 3) (pa_cons (pv 6) (pa_cons (pv 8) pa_nil))))))) (pss_one (ps_ret pe_bl)) pss_nil)
      (pss_cons (ps_setLc (i := 13) (own := [("_law_k", 12)]) (g := gName 12) (tt := tYes) rfl scLaw.nd rfl rfl (sw_true rfl rfl rfl (by decide +kernel)) (pi_range1 rfl B.range (pa_cons pe_int pa_nil)) (blkOk_by (N := nLaw) (sc := defScope sLaw) (by decide +kernel))
          (fun _ _ _ _ _ => pg_name (i := 12) scLaw.nd rfl (Or.inl rfl)) (fun _ _ _ _ _ => pts_nil) (fun _ _ _ _ _ => pe_call GOf r2 rfl TOf.g TOf.F.kp TOf.b .nil pass0 (pa_cons (pv 1) (pa_cons (pv 3) (pa_cons (pv 9) pa_nil)))))
      (pss_cons (ps_set (i := 15) scLaw.nd rfl (Or.inl rfl) (pe_call GT r1 rfl TT.g TT.F.kp TT.b .nil pass0 (pa_cons (pv 1) (pa_cons pe_int pa_nil))))
      (pss_cons (ps_set (i := 16) scLaw.nd rfl (Or.inl rfl) (pe_ix ix_list (pv 13) (pv 15) (fun _ _ => rfl)))
      (pss_cons (ps_set (i := 17) scLaw.nd rfl (Or.inl rfl) (pe_ix ix_list (pe_lst (pa_cons (pe_tup (pa_cons (pv 5) (pa_cons (pe_ix ix_tup (pv 16) pe_int (fun _ _ => rfl)) (pa_cons (pe_ix ix_tup (pv 16) pe_int (fun _ _ => rfl)) pa_nil)))) (pa_cons (pe_tup (pa_cons (pe_ix ix_tup (pv 16) pe_int (fun _ _ => rfl)) (pa_cons (pv 5) (pa_cons (pe_ix ix_tup (pv 16) pe_int (fun _ _ => rfl)) pa_nil)))) pa_nil))) (pe_call GT r1 rfl TT.g TT.F.kp TT.b .nil pass0 (pa_cons (pv 1) (pa_cons pe_int pa_nil))) (fun _ _ => rfl)))
      (pss_cons (ps_asg (pv 17) (pg_sub (pv 13) (pv 15) set_list))
      (C8.pss_cut (ps_if (PW.pt (pw_and (pt_cmpR op_eq (pe_call GT r1 rfl TT.g TT.F.kp TT.b .nil pass0 (pa_cons (pv 1) (pa_cons pe_int pa_nil))) pe_int (nomark _)) (pw_and1 (pt_cmpR op_lt (pv 15) pe_int (nomark _)))))
          (pss_one (ps_asg (pe_tup (pa_cons (pe_op op_add_str (pv 5) (pv 5)) (pa_cons (pe_ix ix_tup (pv 16) pe_int (fun _ _ => rfl)) (pa_cons (pe_ix ix_tup (pv 16) pe_int (fun _ _ => rfl)) pa_nil)))) (pg_sub (pv 13) pe_int set_list))) pss_nil)
      (pss_one (ps_ret (pe_cmpR (op_eqS hr.units) (pe_call GTk hr rfl TTk.g TTk.F.kp TTk.b .nil pass0 (pa_cons (pv 4) (pa_cons (pv 13) pa_nil))) (pe_tup (pa_cons pe_str (pa_cons (pv 5) pa_nil))) (nomark _)))))))))))))))))))))))), ?_⟩
    refine ⟨_, rfl, scr, script, rfl, hS, hlen, fun p c' H1 q1 hp0 hc0 P1 => ?_⟩
    -- the kinds
    refine ⟨(by show 4 ≤ sizeLine; decide), fun t1 ht1 => ⟨_, rfl, p, c', 4, rfl, P1.new ht1, by decide, by decide, fun v1 H2 v10 v11 g2 P2 => ?_⟩⟩
    obtain ⟨ns, hns, ns3⟩ := four v10 v11
    refine ⟨t1, _, _, _, rfl, rfl, SqL.of (g2 _ _ upd_same (P1.ne ht1).1), hns, ?_⟩
    refine ⟨_, rfl, _, rfl, (by show 4 ≤ sizeLine; decide), fun t2 ht2 => ⟨_, rfl, p, c', 4, rfl, P2.new ht2, by decide, by decide, fun v2 H3 v20 v21 g3 P3 => ?_⟩⟩
    obtain ⟨nm, hnm, nm3⟩ := four v20 v21
    obtain ⟨mo, hmo, mo0, mo5⟩ := most4 ns3
    refine ⟨t2, _, _, _, rfl, rfl, SqL.of (g3 _ _ upd_same (P2.ne ht2).1), hnm, (by show 4 ≤ sizeLine; decide), fun t3 ht3 => ⟨_, rfl, t3, _, _, _, rfl, rfl, SqL.of upd_same, hmo, ?_⟩⟩
    have P3 := P3.new (o := .lst [.int 5, .int 5, .int 5, .int 3]) ht3
    generalize upd H3 t3 (.lst [.int 5, .int 5, .int 5, .int 3]) = H3' at P3 ⊢
    refine ⟨p, c', ns, nm, 7, mo, rfl, P3, by omega, by omega, by omega, by omega, by omega, fun kl as ks H4 g4 P4 hkl0 hkl hks fr kok kt klen _ _ => ?_⟩
    have nkp := (P3.ne hkl0).1
    have k6 : ks.length ≤ 6 := by omega
    have hk4 : KdsAt (off p H4) as ks := hks.keep off_sub
    have smk : ∀ k ∈ ks, Sm k := fun k hk => (kt k hk).2
    have l100 : ∀ k ∈ ks, ∀ q ∈ k.ng, q.2.length ≤ 100 := fun k hk q hq => Nat.le_trans (smk k hk q hq).2 (by decide)
    -- the parts, the site
    refine ⟨_, rfl, kl, as, ks, rfl, hkl, hk4.keep off_sub, kok, by omega, fun pa xs H6 s6 hpa0 hpa hxs fr6 => ?_⟩
    have P6 : Pool H6 p c' := P4.keep (fun _ e => s6 _ _ e) fun _ e => s6 _ _ e
    have nap := (P4.ne hpa0).1
    refine site_new (Q := fun x' H2 => _) sc (SqL.of hpa) hxs.each kok.fit (by omega) kok.names fun x d ys H7 s7 _ nd7 fr7 st7 => ?_
    have W7 : Wld H7 n CS p c' kl pa x d as ks xs ys := ⟨P6.keep (fun _ e => s7 _ _ e) fun _ e => s7 _ _ e, nkp, nap, s7 _ _ (s6 _ _ hkl), hk4.keep (off_gro (.of_same (s6.trans s7))), s7 _ _ hpa, hxs.keep s7, st7⟩
    clear fr6 fr7 nd7 hxs hpa s6 s7 P6 st7 hk4 hks hkl P4 g4 P3 g3 g2 P2
    -- a strange name
    refine ⟨_, rfl, p, c', _, 11, rfl, W7.P, by decide +kernel, Sgn.nil, by omega, fun z H8 nz g8 P8 => ?_⟩
    have W8 := W7.gro g8 P8
    have z100 : z.length ≤ 100 := Nat.le_trans nz.1 (by omega)
    have lst := W8.hks.len
    have sl70 : (spotsL ks).length ≤ 60 := by
      refine Nat.le_trans (spotsL_len fun k hk => (kok.fit k hk).s10) ?_
      omega
    -- the places, and what is held
    refine ⟨_, rfl, _, rfl, p, c', kl, as, ks, rfl, W8.P, nkp, W8.hkl, W8.hks, kok.ok, by omega, fun pl ps H18 g18 P18 npl0 npl epl plok pl12 => ?_⟩
    have W18 := W8.gro g18 P18
    refine ⟨_, rfl, kl, as, ks, rfl, W18.hkl, W18.hks.keep off_sub, kok.ok, by omega, fun q19 zs19 H19 s19 hq19 eq19 pq19 => ⟨q19, rfl, ⟨_, SqL.of eq19⟩, fun D hD => ?_⟩⟩
    have W19 := W18.same s19
    have epl19 := s19 _ _ epl
    have nqp : q19 ≠ p := fun q => by
      obtain ⟨o, e⟩ := W18.P.two.1
      rw [← q, hq19] at e
      cases e
    obtain ⟨nDp, nDc⟩ := W19.P.ne hD
    have zl19 := pq19.len
    refine lc_list (K := K) (a := q19) (xs := zs19) (fun i H' => Gro p H19 H' ∧ Pool H' p c' ∧ ∃ vs hs, H' D = some (.lst vs) ∧ PairsAt H' vs hs ∧ hs.Sublist ((spotsL ks).take i))
      ⟨.new hD, W19.P.new hD, [], [], upd_same, True.intro, List.nil_sublist _⟩ (fun i H' _ z => SqL.of (z.1 _ _ eq19 nqp)) ?_ ?_
    · rintro i y H' hi ⟨g20, P20, vs, hs, ev, pv', sb⟩
      obtain ⟨t, pr, rfl, hpr, ht⟩ := pq19.get hi
      refine ⟨rfl, _, rfl, p, c', 2, rfl, P20, by decide, by decide, fun u H21 u0 u1 g21 P21 => ⟨rfl, _, rfl, ite2 (fun _ => ?_) (fun _ => ?_)⟩⟩
      · have ev' := g21 _ _ ev nDp
        have ht' := W19.P.noL (g20.trans g21) _ _ ht (fun _ z => nomatch z)
        have pv2 : PairsAt H21 vs hs := pv'.keep fun t ys e => P20.noL g21 _ _ e (fun _ z => nomatch z)
        have nq : ∀ b ys, H21 b = some (.tup ys) → upd H21 D (.lst (vs ++ [.ref t])) b = some (.tup ys) := fun b ys et => by rw [upd_ne (ne_of et ev' (fun z => nomatch z))]; exact et
        refine ⟨_, rfl, _, ev', small1000 ?_, fun b o e ne => ?_, P21.off nDp nDc, _, hs ++ [pr], upd_same, PairsAt.snoc (nq _ _ ht') (pv2.keep nq), ?_⟩
        · rw [pv'.len]
          have := sb.length_le
          rw [List.length_take] at this
          omega
        · rw [upd_ne (ne_of_none e hD)]
          exact g21 _ _ (g20 _ _ e ne) ne
        · rw [takeP hpr]
          exact sb.append (List.Sublist.refl _)
      · refine ⟨g20.trans g21, P21, vs, hs, g21 _ _ ev nDp, pv'.keep fun t ys e => P20.noL g21 _ _ e (fun _ z => nomatch z), sb.trans ?_⟩
        exact (List.take_prefix_take_left (Nat.le_succ i)).sublist
    rintro H20 ⟨g20, P20, vs, hs, ev, pv', sb⟩
    rw [zl19, List.take_length] at sb
    have W20 := W19.gro g20 P20
    have epl20 := W19.P.noL g20 _ _ epl19 (fun _ z => nomatch z)
    have hsub : ∀ q ∈ hs, q ∈ spotsL ks := fun q m => sb.subset m
    have hs60 : hs.length ≤ 60 := by
      have := sb.length_le
      omega
    have nda : (allS ks).Nodup := allS_nd W7.st.nd W7.st.parts.ssnd
    have hnd : hs.Nodup := sb.nodup (by rw [← spots_filter kok.names]; exact nda.filter _)
    have p100 : ∀ y ∈ ps, y.length ≤ 100 := fun y hy => Nat.le_trans (pl12 y hy) (by omega)
    have S20 : St13 K H20 n CS p c' kl pa x d as ks xs ys pl D ps vs hs := ⟨W20, epl20, nDp, ev, pv'⟩
    clear W7 W8 W18 W19 W20 g8 P8 g18 s19 g20 P18 P20 epl epl19 epl20 eq19 pq19 ev pv' sb hD nDc nqp npl0 hq19 zl19
    -- no offers: the same site
    refine ⟨fun σ H' => Same H20 H' ∧ σ = [some (.ref scr), some (.ref p), some (.int (ns : Int)), some (.ref kl), some (.ref x), some (.str z), some (.ref pl), none, some (.ref D), none, none, none, none, none, none, none, none, none], ?_, ?_⟩
    · refine ⟨_, rfl, (by show 0 ≤ sizeLine; omega), fun L hL => ?_⟩
      have s1 := same_new (o := .lst []) hL
      have S1 := S20.same s1
      refine ⟨x, d, ys, ks, L, [], [], rfl, S1.W.st, by omega, kok.fit, l100, upd_same, ⟨rfl, fun i y o h => by simp at h⟩, Nat.zero_le _, fun o m => (nomatch m), fun _ x2 d2 zs H2 s2 nx nd fr st2 => ?_, fun i o h => by simp at h, fun i o k h => by simp at h⟩
      have st2 : SiteAt H2 n CS x2 d2 zs ks := by
        have e : ks.map (taken []) = ks := (List.map_congr_left fun k _ => rfl).trans (List.map_id' ks)
        rw [e] at st2
        exact st2
      have S2 := S1.same s2
      exact ⟨_, rfl, _, rfl, _, rfl, x2, d2, kl, pl, D, as, ks, zs, ps, hs, rfl, S2.W.hkl, S2.W.hks.keep off_sub, kok, by omega, st2, SqT.of S2.epl, plok, p100, S2.held, hnd, hsub, by omega, fun H3 s3 => ⟨true, rfl, no rfl ⟨(s1.trans s2).trans s3, rfl⟩⟩⟩
    rintro σ H21 ⟨s21, rfl⟩
    have S21 := S20.same s21
    clear S20
    -- no kinds
    refine ⟨fun σ H' => Same H21 H' ∧ 0 < ks.length ∧ σ = [some (.ref scr), some (.ref p), some (.int (ns : Int)), some (.ref kl), some (.ref x), some (.str z), some (.ref pl), none, some (.ref D), none, none, none, none, none, none, none, none, none], ?_, ?_⟩
    · refine ⟨_, rfl, kl, _, rfl, .inl (SqL.of S21.W.hkl), rfl, _, rfl, ?_⟩
      by_cases h0 : ks.length = 0
      · have e0 : ks = [] := List.length_eq_zero_iff.mp h0
        have ek : (refsK as).length = 0 := by rw [refsK_len, lst, h0]
        refine yes (decide_eq_true (by rw [ek]; rfl)) ⟨_, rfl, _, rfl, _, rfl, _, rfl, (by show 3 ≤ sizeLine; decide), fun t ht => ⟨(by show 1 ≤ sizeLine; decide), fun L hL => ?_⟩⟩
        have s1 := same_new (o := .tup [.str z, .str z, .str z]) ht
        have et : upd H21 t (.tup [.str z, .str z, .str z]) t = some (.tup [.str z, .str z, .str z]) := upd_same
        generalize upd H21 t (.tup [.str z, .str z, .str z]) = H22 at s1 et hL ⊢
        have s2 := same_new (o := .lst [V.ref t]) hL
        have S2 := (S21.same s1).same s2
        have et2 := s2 _ _ et
        refine ⟨x, d, ys, ks, L, [.ref t], [(z, z, z)], rfl, S2.W.st, by omega, kok.fit, l100, upd_same, ⟨rfl, fun i y o h1 h2 => ?_⟩, (by show 1 ≤ 3; decide), fun o m => by rw [List.mem_singleton.mp m]; exact ⟨z100, z100⟩, fun ok => ?_, fun i o h1 _ _ q H' s3 e => ?_, fun i o k h1 _ mk => by rw [e0] at mk; cases mk⟩
        · match i, h1, h2 with
          | 0, h1, h2 =>
            cases h1
            cases h2
            exact ⟨t, rfl, et2⟩
          | _ + 1, h1, _ => simp at h1
        · obtain ⟨k0, m0, _⟩ := ok _ (List.mem_singleton.mpr rfl)
          rw [e0] at m0
          cases m0
        · have eo : o = (z, z, z) := List.mem_singleton.mp (List.mem_of_getElem? h1)
          subst eo
          refine ⟨_, rfl, (by show 2 ≤ sizeLine; decide), fun u hu => ?_⟩
          have s4 := same_new (o := .tup [.str "unknown", .str z]) hu
          exact ⟨_, dp_tup (ss := ["unknown", z]) (SqT.of (s4 _ _ e)), dp_tup (ss := ["unknown", z]) (SqT.of upd_same), plain_tup _, depth_tup _, k _⟩
      · refine no (decide_eq_false fun q => h0 ?_) ⟨Same.refl _, by omega, rfl⟩
        injection q with q
        rw [refsK_len, lst] at q
        omega
    rintro σ H22 ⟨s22, k0, rfl⟩
    have S22 := S21.same s22
    clear S21
    -- the doors
    have lk11 : ks.length ≤ 11 := by omega
    refine ⟨_, rfl, (by show 1 ≤ sizeLine; decide), fun L0 hL0 => ?_⟩
    have s23 := same_new (o := .lst [.str z]) hL0
    have eL0 : upd H22 L0 (.lst [.str z]) L0 = some (.lst ([z].map V.str)) := upd_same
    generalize upd H22 L0 (.lst [.str z]) = H23 at s23 eL0 ⊢
    have S23 := S22.same s23
    have nL0 : L0 ≠ p := (S22.W.P.ne hL0).1
    have hks23 : KdsAt H23 as ks := S23.W.hks.keep off_sub
    have free23 : ∀ b, H23 b = none → b ≠ p := fun b e => (S23.W.P.ne e).1
    refine ⟨_, rfl, kl, rfl, ⟨_, SqL.of S23.W.hkl⟩, for_list (K := K) (a := kl) (xs := refsK as)
      (fun i σ H' => Same H23 H' ∧ ∃ (L : Addr) (ss : List Str) (v10 v11 : Option V), H' L = some (.lst (ss.map V.str)) ∧ L ≠ p ∧ 0 < ss.length ∧ ss.length ≤ 1 + i * 50 ∧ (∀ y ∈ ss, ∃ j, j < 12 ∧ NameK j y) ∧
        σ = [some (.ref scr), some (.ref p), some (.int (ns : Int)), some (.ref kl), some (.ref x), some (.str z), some (.ref pl), none, some (.ref D), some (.ref L), v10, v11, none, none, none, none, none, none])
      ⟨Same.refl _, L0, [z], _, _, eL0, nL0, Nat.one_pos, (by show 1 ≤ 1 + 0 * 50; decide), fun y hy => by rw [List.mem_singleton.mp hy]; exact ⟨11, by omega, nz⟩, rfl⟩ (fun i σ H' _ h => SqL.of (h.1 _ _ S23.W.hkl)) ?_ ?_⟩
    · rintro i y σ H' hi ⟨s7, L, ss, v10, v11, eL, nL, s0, sl, sy, rfl⟩
      obtain ⟨a, ha, rfl⟩ := refsK_at hi
      obtain ⟨kd, hkd, ka⟩ := hks23.at_ ha
      have il := (List.getElem?_eq_some_iff.mp hkd).1
      have mk := List.mem_of_getElem? hkd
      have ok := kok.ok kd mk
      have k7 := ka.keep s7
      have ln := ok.ln
      have ln5 := ok.s5
      have ll := StrLs.app k7.hns k7.hgs
      have nl := k7.hns.len
      have gl := k7.hgs.len
      rw [List.length_map] at nl gl
      have rowOk : ∀ xs ∈ kd.ng.map (·.1) ++ kd.ng.map (·.2), xs.length ≤ 5 ∧ ∀ y ∈ xs, ∃ j, j < 12 ∧ NameK j y := fun xs hxs => by
        rcases List.mem_append.mp hxs with m | m
        · obtain ⟨q, hq, rfl⟩ := List.mem_map.mp m
          exact ⟨(smk kd mk q hq).1, fun y hy => (ok.dn q hq).1 y hy⟩
        · obtain ⟨q, hq, rfl⟩ := List.mem_map.mp m
          exact ⟨(smk kd mk q hq).2, fun y hy => (ok.dn q hq).2 y hy⟩
      refine ⟨_, rfl, a.u, _, 4, _, rfl, rfl, SqL.of k7.hu, at_c (j := 4) rfl rfl, _, rfl, a.u, _, 5, _, rfl, rfl, SqL.of k7.hu, at_c (j := 5) rfl rfl, a.n, a.g, _, _, rfl, rfl, k7.hn, k7.hg, big1000 (by rw [List.length_map, List.length_map]; omega), fun L2 hL2 => ?_⟩
      rw [← List.map_append]
      have s8 := same_new (o := .lst ((a.ns ++ a.gs).map V.ref)) hL2
      have e2 : upd H' L2 (.lst ((a.ns ++ a.gs).map V.ref)) L2 = some (.lst ((a.ns ++ a.gs).map V.ref)) := upd_same
      generalize upd H' L2 (.lst ((a.ns ++ a.gs).map V.ref)) = H8 at s8 e2 ⊢
      refine ⟨L2, rfl, ⟨_, SqL.of e2⟩, for_list (K := K) (a := L2) (xs := (a.ns ++ a.gs).map V.ref)
        (fun j σ H9 => Same H8 H9 ∧ ∃ (L : Addr) (ss : List Str) (v11 : Option V), H9 L = some (.lst (ss.map V.str)) ∧ L ≠ p ∧ 0 < ss.length ∧ ss.length ≤ 1 + i * 50 + j * 5 ∧ (∀ y ∈ ss, ∃ j, j < 12 ∧ NameK j y) ∧
          σ = [some (.ref scr), some (.ref p), some (.int (ns : Int)), some (.ref kl), some (.ref x), some (.str z), some (.ref pl), none, some (.ref D), some (.ref L), some (.ref a.u), v11, none, none, none, none, none, none])
        ⟨Same.refl _, L, ss, _, s8 _ _ eL, nL, s0, by omega, sy, rfl⟩ (fun j σ H9 _ h => SqL.of (h.1 _ _ e2)) ?_ ?_⟩
      · rintro j y σ H9 hj ⟨s9, L, ss, v11, eL, nL, s0, sl, sy, rfl⟩
        obtain ⟨b, hb, rfl⟩ : ∃ b, (a.ns ++ a.gs)[j]? = some b ∧ y = .ref b := by
          rw [List.getElem?_map] at hj
          obtain ⟨t, ht, e⟩ := Option.map_eq_some_iff.mp hj
          exact ⟨t, ht, e.symm⟩
        obtain ⟨xs, hxs, eb⟩ := ll.at_ hb
        obtain ⟨x5, xy⟩ := rowOk xs (List.mem_of_getElem? hxs)
        have jl := (List.getElem?_eq_some_iff.mp hb).1
        rw [List.length_append] at jl
        refine ⟨_, rfl, _, rfl, L, b, _, _, rfl, rfl, eL, s9 _ _ (s8 _ _ eb), big1000 (by rw [List.length_map, List.length_map]; omega), fun L3 hL3 => ?_⟩
        rw [← List.map_append]
        refine ⟨s9.trans (same_new hL3), L3, ss ++ xs, _, upd_same, free23 _ (s7.free (s8.free (s9.free hL3))), by rw [List.length_append]; omega, by rw [List.length_append]; omega, fun y hy => ?_, rfl⟩
        exact (List.mem_append.mp hy).elim (sy y) (xy y)
      · rintro σ H9 ⟨s9, L, ss, v11, eL, nL, s0, sl, sy, rfl⟩
        refine ⟨s7.trans (s8.trans s9), L, ss, _, _, eL, nL, s0, ?_, sy, rfl⟩
        rw [List.length_map, List.length_append] at sl
        omega
    rintro σ H24 ⟨s24, L, ds, v10, v11, eL, nL, ds0, dsl, dsy, rfl⟩
    rw [refsK_len, lst] at dsl
    have S24 := S23.same s24
    have ds1000 : ds.length ≤ 1000 := by omega
    clear S22 S23 s23 s24 eL0 nL0 hks23 free23 hL0
    -- offers
    have of100 : ∀ (os : List Of), (∀ o ∈ os, OkOf ks o ∧ o.2.2 ∈ ds) → ∀ o ∈ os, o.1.length ≤ 100 ∧ o.2.1.length ≤ 100 := fun os h o m => by
      obtain ⟨⟨k1, m1, e1, e2⟩, _⟩ := h o m
      rw [← e1]
      exact ⟨(kok.fit k1 m1).nl, (kok.fit k1 m1).sl _ e2⟩
    refine ⟨_, rfl, p, c', 4, rfl, S24.W.P, by decide, by decide, fun v3 H25 v30 v31 g25 P25 => ⟨_, _, rfl, rfl, _, rfl, by omega, by omega, fun Lo hLo => ?_⟩⟩
    have S25 := S24.gro g25 P25
    have eL25 := g25 _ _ eL nL
    obtain ⟨nLop, nLoc⟩ := P25.ne hLo
    refine lc_range (lo := 0) (n := ((3 : Int) - v3).toNat) (OffL p c' Lo ks ds H25) (offs_start P25 hLo) (fun i H' hi inv => ⟨rfl, _, rfl, _, rfl, _, rfl, offs_next (by omega) hLo nLop nLoc nkp nL S25.W.hkl S25.W.hks kok k0 lk11 eL25 ds0 ds1000 inv⟩) ?_
    rintro H26 ⟨g26, P26, oys, os, eLo, hos, osl, osk⟩
    have S26 := S25.gro g26 P26
    have eL26 := g26 _ _ eL25 nL
    have os3 : os.length ≤ 3 := by omega
    clear S24 S25 g25 P25 g26 eL eL25 hLo
    -- they are taken
    have okAll : ∀ o ∈ os, OkOf ks o := fun o m => (osk o m).1
    refine ⟨_, rfl, _, rfl, x, d, ys, ks, Lo, oys, os, rfl, S26.W.st, by omega, kok.fit, l100, eLo, hos, os3, of100 os osk, fun _ x2 d2 zs H27 s27 nx nd fr st2 => ?_, fun i o h1 _ hn => ?_, fun i o k1 h1 _ mk1 e1 hn => ?_⟩
    rotate_left
    · obtain ⟨k2, m2, e2, _⟩ := okAll o (List.mem_of_getElem? h1)
      exact absurd e2 (hn k2 m2)
    · obtain ⟨k2, m2, e2, i2⟩ := okAll o (List.mem_of_getElem? h1)
      have := one_name kok.names mk1 m2 (e1.trans e2.symm)
      subst this
      exact absurd i2 hn
    have S27 := S26.same s27
    -- both agree
    refine ⟨fun σ H' => Same H27 H' ∧ σ = [some (.ref scr), some (.ref p), some (.int (ns : Int)), some (.ref kl), some (.ref x), some (.str z), some (.ref pl), none, some (.ref D), some (.ref L), v10, v11, none, some (.ref Lo), some (.ref x2), none, none, none], ?_, ?_⟩
    · refine ⟨_, rfl, _, rfl, _, rfl, kl, Lo, as, ks, oys, os, rfl, S27.W.hkl, S27.W.hks.keep off_sub, kok, lk11, s27 _ _ eLo, hos.keep fun b xs e => s27 _ _ e, os3, okAll, smk, fun q as' H28 s28 _ e28 hk28 => ?_⟩
      have S28 := S27.same s28
      have al := alike_taken os ks
      have kok' : KdsOk (ks.map (taken os)) := taken_kds kok smk os3 fun o m => dsy _ (osk o m).2
      exact ⟨_, rfl, _, rfl, x2, d2, q, pl, D, as', ks.map (taken os), zs, ps, hs, rfl, e28, hk28, kok', by rw [List.length_map]; omega, st2.keep s28, SqT.of S28.epl, al.plok plok, p100, S28.held, hnd, fun q m => by rw [← al.spots]; exact hsub q m, by omega, fun H3 s3 => ⟨true, rfl, no rfl ⟨s28.trans s3, rfl⟩⟩⟩
    rintro σ H28 ⟨s28, rfl⟩
    have S28 := S27.same s28
    refine ⟨fun σ H' => Same H28 H' ∧ σ = [some (.ref scr), some (.ref p), some (.int (ns : Int)), some (.ref kl), some (.ref x), some (.str z), some (.ref pl), none, some (.ref D), some (.ref L), v10, v11, none, some (.ref Lo), some (.ref x2), none, none, none], ?_, ?_⟩
    · exact ⟨_, rfl, _, rfl, _, rfl, _, rfl, x, d, kl, pl, D, as, ks, ys, ps, hs, rfl, S28.W.hkl, S28.W.hks.keep off_sub, kok, lk11, S28.W.st, SqT.of S28.epl, plok, p100, S28.held, hnd, hsub, by omega, fun H3 s3 => ⟨true, rfl, no rfl ⟨s3, rfl⟩⟩⟩
    rintro σ H29 ⟨s29, rfl⟩
    have S29 := S28.same s29
    have eL29 := s29 _ _ (s28 _ _ (s27 _ _ eL26))
    clear S26 S27 S28 s27 s28 s29 eLo hos eL26 osl osk okAll P26 fr nd nx st2
    -- three offers, one of them with a strange name
    refine ⟨_, rfl, by omega, by omega, fun Lq hLq => ?_⟩
    obtain ⟨nLqp, nLqc⟩ := S29.W.P.ne hLq
    refine lc_range (lo := 0) (n := (3 : Int).toNat) (OffL p c' Lq ks ds H29) (offs_start S29.W.P hLq) (fun i H' hi inv => ⟨rfl, _, rfl, _, rfl, _, rfl, offs_next (by omega) hLq nLqp nLqc nkp nL S29.W.hkl S29.W.hks kok k0 lk11 eL29 ds0 ds1000 inv⟩) ?_
    rintro H30 ⟨g30, P30, qys, qs, eLq, hqs, qsl, qsk⟩
    have qsl : qs.length = 3 := qsl
    have qyl := hqs.1
    refine ⟨_, rfl, p, c', 3, rfl, P30, by decide, by decide, fun va H31 va0 va1 g31 P31 => ?_⟩
    obtain ⟨av, rfl⟩ : ∃ av : Nat, va = (av : Int) := ⟨va.toNat, by omega⟩
    have av3 : av < 3 := by omega
    obtain ⟨o, ho⟩ : ∃ o, qs[av]? = some o := ⟨_, List.getElem?_eq_getElem (by omega)⟩
    obtain ⟨ty, hty⟩ : ∃ y, qys[av]? = some y := ⟨_, List.getElem?_eq_getElem (by omega)⟩
    obtain ⟨t, rfl, et⟩ := hqs.2 av ty o hty ho
    have et := P30.noL g31 _ _ et (fun _ z => nomatch z)
    obtain ⟨ok1, od1⟩ := qsk o (List.mem_of_getElem? ho)
    have eLq31 := g31 _ _ eLq nLqp
    refine ⟨_, rfl, _, rfl, Lq, _, _, .ref t, rfl, rfl, SqL.of eLq31, at_c hty rfl, ?_⟩
    refine ⟨_, rfl, _, rfl, t, _, 1, _, rfl, rfl, SqT.of et, at_c (j := 1) rfl rfl, _, rfl, t, _, 2, _, rfl, rfl, SqT.of et, at_c (j := 2) rfl rfl, (by show 3 ≤ sizeLine; decide), fun w1 hw1 => ?_⟩
    have s1 := same_new (o := .tup [.str z, .str o.2.1, .str o.2.2]) hw1
    have e1 : upd H31 w1 (.tup [.str z, .str o.2.1, .str o.2.2]) w1 = some (.tup [.str z, .str o.2.1, .str o.2.2]) := upd_same
    generalize upd H31 w1 (.tup [.str z, .str o.2.1, .str o.2.2]) = H32 at s1 e1 ⊢
    have et32 := s1 _ _ et
    refine ⟨_, rfl, t, _, 0, _, rfl, rfl, SqT.of et32, at_c (j := 0) rfl rfl, _, rfl, _, rfl, t, _, 2, _, rfl, rfl, SqT.of et32, at_c (j := 2) rfl rfl, (by show 3 ≤ sizeLine; decide), fun w2 hw2 => ⟨(by show 2 ≤ sizeLine; decide), fun wl hwl => ?_⟩⟩
    have s2 := same_new (o := .tup [.str o.1, .str z, .str o.2.2]) hw2
    have e2 : upd H32 w2 (.tup [.str o.1, .str z, .str o.2.2]) w2 = some (.tup [.str o.1, .str z, .str o.2.2]) := upd_same
    have e12 := s2 _ _ e1
    generalize upd H32 w2 (.tup [.str o.1, .str z, .str o.2.2]) = H33 at s2 e2 e12 hwl ⊢
    have s3 := same_new (o := .lst [.ref w1, .ref w2]) hwl
    have e3 : upd H33 wl (.lst [.ref w1, .ref w2]) wl = some (.lst [.ref w1, .ref w2]) := upd_same
    have e13 := s3 _ _ e12
    have e23 := s3 _ _ e2
    generalize upd H33 wl (.lst [.ref w1, .ref w2]) = H34 at s3 e3 e13 e23 ⊢
    have s14 := s1.trans (s2.trans s3)
    have P34 : Pool H34 p c' := P31.keep (fun _ e => s14 _ _ e) fun _ e => s14 _ _ e
    have nwl : wl ≠ p := fun q => by
      obtain ⟨o, e⟩ := P31.two.1
      have := (s1.trans s2) _ _ e
      rw [q, this] at hwl
      cases hwl
    refine ⟨_, rfl, p, c', 2, rfl, P34, by decide, by decide, fun vb H35 vb0 vb1 g35 P35 => ?_⟩
    have g3035 := g31.trans ((Gro.of_same s14).trans g35)
    obtain ⟨w, ob, hw, ew, hob⟩ : ∃ (w : Addr) (ob : Of), atI [V.ref w1, .ref w2] vb = some (.ref w) ∧ H35 w = some (.tup [.str ob.1, .str ob.2.1, .str ob.2.2]) ∧ (ob = (z, o.2.1, o.2.2) ∨ ob = (o.1, z, o.2.2)) := by
      by_cases q : vb = 0
      · exact ⟨w1, (z, o.2.1, o.2.2), at_c (j := 0) rfl q, P34.noL g35 _ _ e13 (fun _ z => nomatch z), .inl rfl⟩
      · exact ⟨w2, (o.1, z, o.2.2), at_c (j := 1) rfl (by omega), P34.noL g35 _ _ e23 (fun _ z => nomatch z), .inr rfl⟩
    refine ⟨wl, _, vb, .ref w, rfl, rfl, SqL.of (g35 _ _ e3 nwl), hw, ?_⟩
    have eLq35 := g3035 _ _ eLq nLqp
    have et35 := P34.noL g35 _ _ (s14 _ _ et) (fun _ z => nomatch z)
    refine ⟨_, rfl, _, rfl, _, rfl, Lq, qys, _, av, rfl, rfl, eLq35, ixN_c (by omega) rfl, ?_⟩
    have hqs35 : OfsAt H35 qys qs := hqs.keep fun b xs e => P30.noL g3035 _ _ e (fun _ z => nomatch z)
    have kt : ∀ b xs, H35 b = some (.tup xs) → upd H35 Lq (.lst (qys.set av (.ref w))) b = some (.tup xs) := fun b xs e => by rw [upd_ne (ne_of e eLq35 (fun z => nomatch z))]; exact e
    have g36 : Gro p H29 (upd H35 Lq (.lst (qys.set av (.ref w)))) := fun b u e ne => by
      rw [upd_ne (ne_of_none e hLq)]
      exact g3035 _ _ (g30 _ _ e ne) ne
    have P36 : Pool (upd H35 Lq (.lst (qys.set av (.ref w)))) p c' := P35.off nLqp nLqc
    have e36 : upd H35 Lq (.lst (qys.set av (.ref w))) Lq = some (.lst (qys.set av (.ref w))) := upd_same
    have h36 : OfsAt (upd H35 Lq (.lst (qys.set av (.ref w)))) (qys.set av (.ref w)) (qs.set av ob) := (hqs35.set ew).keep kt
    have et36 := kt _ _ et35
    generalize upd H35 Lq (.lst (qys.set av (.ref w))) = H36 at g36 P36 e36 h36 et36 ⊢
    have nb : ¬ OkOf ks ob := by
      rintro ⟨k1, m1, f1, f2⟩
      rcases hob with rfl | rfl
      · exact strange_kind kok k6 nz k1 m1 f1
      · exact strange_stand (kok.ok k1 m1) nz f2
    have zl : z.length ≤ 12 := nz.1
    have o100 := of100 qs qsk o (List.mem_of_getElem? ho)
    have ob100 : ob.1.length ≤ 100 ∧ ob.2.1.length ≤ 100 := by
      rcases hob with rfl | rfl
      · exact ⟨z100, o100.2⟩
      · exact ⟨o100.1, z100⟩
    refine ⟨fun σ H' => Gro p H29 H' ∧ Pool H' p c' ∧ ∃ (zs : List V) (rs : List Of), H' Lq = some (.lst zs) ∧ OfsAt H' zs rs ∧ rs.length = 3 ∧ rs[av]? = some ob ∧ (∀ j, j < av → ∀ q, rs[j]? = some q → OkOf ks q) ∧ (∀ q ∈ rs, q.1.length ≤ 100 ∧ q.2.1.length ≤ 100) ∧
      σ = [some (.ref scr), some (.ref p), some (.int (ns : Int)), some (.ref kl), some (.ref x), some (.str z), some (.ref pl), none, some (.ref D), some (.ref L), v10, v11, none, some (.ref Lq), some (.ref x2), some (.int (av : Int)), some (.ref t), some (.ref w)], ?_, ?_⟩
    · have low : ∀ j, j < av → ∀ q, (qs.set av ob)[j]? = some q → OkOf ks q := fun j hj q e => by
        rw [List.getElem?_set_ne (by omega)] at e
        exact (qsk q (List.mem_of_getElem? e)).1
      have len : ∀ q ∈ qs.set av ob, q.1.length ≤ 100 ∧ q.2.1.length ≤ 100 := fun q m => by
        rcases set_mem m with m | rfl
        · exact of100 qs qsk q m
        · exact ob100
      have atv : (qs.set av ob)[av]? = some ob := List.getElem?_set_self (by omega)
      refine ⟨_, rfl, p, c', 2, rfl, P36, by decide, by decide, fun u H37 u0 u1 g37 P37 => ⟨rfl, _, rfl, ite2 (fun _ => ?_) (fun _ => ?_)⟩⟩
      · have e37 := g37 _ _ e36 nLqp
        have h37 := h36.keep fun b xs e => P36.noL g37 _ _ e (fun _ z => nomatch z)
        have et37 := P36.noL g37 _ _ et36 (fun _ z => nomatch z)
        refine ⟨_, rfl, _, _, rfl, rfl, _, rfl, ite2 (fun lt => ?_) (fun _ => ?_)⟩
        · have lt : av < 2 := by
            have := of_decide_eq_true lt
            omega
          refine ⟨_, rfl, _, rfl, _, _, rfl, rfl, Nat.le_of_lt (small1000 (by omega)), _, rfl, t, _, 1, _, rfl, rfl, SqT.of et37, at_c (j := 1) rfl rfl, _, rfl, t, _, 2, _, rfl, rfl, SqT.of et37, at_c (j := 2) rfl rfl, (by show 3 ≤ sizeLine; decide), fun w3 hw3 => ?_⟩
          have s4 := same_new (o := .tup [.str (z ++ z), .str o.2.1, .str o.2.2]) hw3
          have e4 : upd H37 w3 (.tup [.str (z ++ z), .str o.2.1, .str o.2.2]) w3 = some (.tup [.str (z ++ z), .str o.2.1, .str o.2.2]) := upd_same
          have P4 : Pool (upd H37 w3 (.tup [.str (z ++ z), .str o.2.1, .str o.2.2])) p c' := P37.new hw3
          generalize upd H37 w3 (.tup [.str (z ++ z), .str o.2.1, .str o.2.2]) = H38 at s4 e4 P4 ⊢
          have e38 := s4 _ _ e37
          have h38 := h37.keep fun b xs e => s4 _ _ e
          have kt4 : ∀ b xs, H38 b = some (.tup xs) → upd H38 Lq (.lst ((qys.set av (.ref w)).set 2 (.ref w3))) b = some (.tup xs) := fun b xs e => by rw [upd_ne (ne_of e e38 (fun z => nomatch z))]; exact e
          refine ⟨_, rfl, Lq, _, 2, 2, rfl, rfl, e38, ixN_c (by rw [List.length_set]; omega) rfl, fun b u e ne => ?_, P4.off nLqp nLqc, (qys.set av (.ref w)).set 2 (.ref w3), (qs.set av ob).set 2 (z ++ z, o.2.1, o.2.2), upd_same, (h38.set (o := (z ++ z, o.2.1, o.2.2)) e4).keep kt4, by rw [List.length_set, List.length_set]; exact qsl, by rw [List.getElem?_set_ne (by omega)]; exact atv, fun j hj q e => ?_, fun q m => ?_, rfl⟩
          · rw [upd_ne (ne_of_none e hLq)]
            exact s4 _ _ (g37 _ _ (g36 _ _ e ne) ne)
          · rw [List.getElem?_set_ne (by omega)] at e
            exact low j hj q e
          · rcases set_mem m with m | rfl
            · exact len q m
            · refine ⟨?_, o100.2⟩
              show (z ++ z).length ≤ 100
              rw [len_app]
              omega
        · exact ⟨g36.trans g37, P37, _, _, e37, h37, by rw [List.length_set]; exact qsl, atv, low, len, rfl⟩
      · exact iteF ⟨g36.trans g37, P37, _, _, g37 _ _ e36 nLqp, h36.keep fun b xs e => P36.noL g37 _ _ e (fun _ z => nomatch z), by rw [List.length_set]; exact qsl, atv, low, len, rfl⟩
    rintro σ H38 ⟨g38, P38, zs, rs, eZ, hZ, rl, rav, rlow, rln, rfl⟩
    have S38 := S29.gro g38 P38
    have fin : ∀ q H', H' q = some (.tup [.str "unknown", .str z]) → ∀ u, H' u = none → ∃ dd : PyData, Dp K (upd H' u (.tup [.str "unknown", .str z])) (.ref q) dd ∧ Dp K (upd H' u (.tup [.str "unknown", .str z])) (.ref u) dd ∧ dd.plain = true ∧ dd.depth ≤ 60 := fun q H' e u hu =>
      ⟨_, dp_tup (ss := ["unknown", z]) (SqT.of (same_new hu _ _ e)), dp_tup (ss := ["unknown", z]) (SqT.of upd_same), plain_tup _, depth_tup _⟩
    have here : ∀ i o', rs[i]? = some o' → (∀ q ∈ rs.take i, OkOf ks q) → ¬ OkOf ks o' → o' = ob := fun i o' h1 h2 h3 => by
      rcases Nat.lt_trichotomy i av with c | c | c
      · exact absurd (rlow i c o' h1) h3
      · subst c
        rw [rav] at h1
        exact (Option.some.inj h1).symm
      · refine absurd (h2 ob (List.mem_of_getElem? (i := av) ?_)) nb
        rw [List.getElem?_take_of_lt c]
        exact rav
    refine ⟨_, rfl, _, rfl, x, d, ys, ks, Lq, zs, rs, rfl, S38.W.st, by omega, kok.fit, l100, eZ, hZ, by omega, rln, fun ok => absurd (ok ob (List.mem_of_getElem? rav)) nb, fun i o' h1 h2 h3 q H' s e => ?_, fun i o' k1 h1 h2 m1 en hn q H' s e => ?_⟩
    · have eo := here i o' h1 h2 (fun ⟨k2, m2, f2, _⟩ => h3 k2 m2 f2)
      have ez : o'.1 = z := by
        rw [eo]
        rcases hob with rfl | rfl
        · rfl
        · obtain ⟨k2, m2, f2, _⟩ := ok1
          rw [eo] at h3
          exact absurd f2 (h3 k2 m2)
      rw [ez] at e
      refine ⟨_, rfl, (by show 2 ≤ sizeLine; decide), fun u hu => ?_⟩
      obtain ⟨dd, f1, f2, f3, f4⟩ := fin q H' e u hu
      exact ⟨dd, f1, f2, f3, f4, k _⟩
    · have eo := here i o' h1 h2 (fun ⟨k2, m2, f2, f3⟩ => by
        have := one_name kok.names m1 m2 (en.trans f2.symm)
        subst this
        exact hn f3)
      have ez : o'.2.1 = z := by
        rw [eo]
        rcases hob with rfl | rfl
        · rw [eo] at en
          exact absurd en (strange_kind kok k6 nz k1 m1)
        · rfl
      rw [ez] at e
      refine ⟨_, rfl, (by show 2 ≤ sizeLine; decide), fun u hu => ?_⟩
      obtain ⟨dd, f1, f2, f3, f4⟩ := fin q H' e u hu
      exact ⟨dd, f1, f2, f3, f4, k _⟩
end
end Yd
namespace Yd
open PySem L2
/-! ### isinstance, of an own class -/
theorem kit_is {K : PySem.W.Frag} {C D : Addr} {b : Bool} (h1 : PySem.W.isClsIn K D = true) (h2 : PySem.W.typeIn K (.ref D) = some (.type "type")) (h3 : PySem.W.subIn K (.ref C) (.ref D) = some b) (h4 : C = D → b = true) : PySem.W.kitOne K (.ref C) (.ref D) = some b := by
  have h5 : (PySem.W.clsIn K D).isSome = true := h1
  have a2 : ((PySem.W.clsIn K D).isSome && PySem.W.typeIn K (.ref D) == some (.type "type")) = true := by rw [h5, h2]; rfl
  unfold PySem.W.kitOne
  split
  · rename_i q
    have q' : C = D := by
      first
        | exact Value.ref.inj (eq_of_beq q)
        | simpa using q
    rw [h4 q']
  · exact (if_pos a2).trans h3
end Yd
namespace Yd
open PySem L2
/-! ### isinstance of a list; a def with one default -/
theorem kit_tyL {K : PySem.W.Frag} {D : Addr} {T : String} {b : Bool} (h1 : PySem.W.isClsIn K D = true) (h2 : PySem.W.typeIn K (.ref D) = some (.type "type")) (h3 : PySem.W.subIn K (.type T) (.ref D) = some b) : PySem.W.kitOne K (.type T) (.ref D) = some b := by
  have h5 : (PySem.W.clsIn K D).isSome = true := h1
  have a2 : ((PySem.W.clsIn K D).isSome && PySem.W.typeIn K (.ref D) == some (.type "type")) = true := by rw [h5, h2]; rfl
  unfold PySem.W.kitOne
  split
  · rename_i q
    exact absurd q (by simp)
  · exact (if_pos a2).trans h3
end Yd
namespace Yd
open PySem L2
/-- which errors «except S» names -/
theorem exm_is {K : PySem.W.Frag} {S : Addr} {cls : Value} {b : Bool} (h1 : PySem.W.subIn K (.ref S) (.type "BaseException") = some true) (h2 : PySem.W.isClsIn K S = true) (h3 : PySem.W.typeIn K (.ref S) = some (.type "type")) (h4 : PySem.W.subIn K cls (.ref S) = some b) : PySem.W.exmOne K cls (.ref S) = some b := by
  have a1 : (PySem.W.subIn K (.ref S) (.type "BaseException") == some true) = true := by rw [h1]; rfl
  have h5 : (PySem.W.clsIn K S).isSome = true := h2
  have a2 : ((PySem.W.clsIn K S).isSome && PySem.W.typeIn K (.ref S) == some (.type "type")) = true := by rw [h5, h3]; rfl
  unfold PySem.W.exmOne
  rw [if_pos a1]
  exact (if_pos a2).trans h4
end Yd
namespace Yd
open PySem L2
/-! ### what the top has written -/
theorem all_mk {P : Program} {w : World} {K : PySem.W.Frag} {h : Heap} {mg : Str → Option Value} {fa : Addr} (X : K.In h) (G : h.Ns mainGlobals mg) (hfa : mg "law" = some (.ref fa))
    {ER fR ccR cdaR : Addr} {nmR qR : Str} {NR : Addr} {bsR bmR : List Value} {snR : List Str} {subR : List Value} {abR : Bool} {colR : Option Bool} {ddR : Option Addr} {m0R m1R m2R m3R m5R : Option Value} {odR anR : Option Addr} {slR : Array (Option Value)} {ocR kVR dcR pmR ctR : Value} {cclR : Value} {cddR : Option Addr} {vsR : Array Value} {ccsR : Array (Option Value)} {fileR : Str} {tfR : Nat} {clR : Value} {cldR : Option Addr} {cslR : Array (Option Value)} {cdDR : ClassData} {EU fU ccU cdaU : Addr} {nmU qU : Str} {NU : Addr} {bsU bmU : List Value} {snU : List Str} {subU : List Value} {abU : Bool} {colU : Option Bool} {ddU : Option Addr} {m0U m1U m2U m3U m5U : Option Value} {odU anU : Option Addr} {slU : Array (Option Value)} {ocU kVU dcU pmU ctU : Value} {cclU : Value} {cddU : Option Addr} {vsU : Array Value} {ccsU : Array (Option Value)} {fileU : Str} {tfU : Nat} {clU : Value} {cldU : Option Addr} {cslU : Array (Option Value)} {cdDU : ClassData} {EN fN ccN cdaN : Addr} {nmN qN : Str} {NN : Addr} {bsN bmN : List Value} {snN : List Str} {subN : List Value} {abN : Bool} {colN : Option Bool} {ddN : Option Addr} {m0N m1N m2N m3N m5N : Option Value} {odN anN : Option Addr} {slN : Array (Option Value)} {ocN kVN dcN pmN ctN : Value} {cclN : Value} {cddN : Option Addr} {vsN : Array Value} {ccsN : Array (Option Value)} {fileN : Str} {tfN : Nat} {clN : Value} {cldN : Option Addr} {cslN : Array (Option Value)} {cdDN : ClassData} {CS : Addr} {CD : Addr} {CP : Addr} {CI : Addr} {CM : Addr} {CT : Addr} {CH : Addr} {fSI : Addr} {odSI anSI : Option Addr} {slSI : Array (Option Value)} {ocSI kVSI dcSI pmSI cdSI ctSI : Value} {fSt : Addr} {odSt anSt : Option Addr} {slSt : Array (Option Value)} {ocSt kVSt dcSt pmSt cdSt ctSt : Value} {fAl : Addr} {odAl anAl : Option Addr} {slAl : Array (Option Value)} {ocAl kVAl dcAl pmAl cdAl ctAl : Value} {fFr : Addr} {odFr anFr : Option Addr} {slFr : Array (Option Value)} {ocFr kVFr dcFr pmFr cdFr ctFr : Value} {fDI : Addr} {odDI anDI : Option Addr} {slDI : Array (Option Value)} {ocDI kVDI dcDI pmDI cdDI ctDI : Value} {fDt : Addr} {odDt anDt : Option Addr} {slDt : Array (Option Value)} {ocDt kVDt dcDt pmDt cdDt ctDt : Value} {fDg : Addr} {odDg anDg : Option Addr} {slDg : Array (Option Value)} {ocDg kVDg dcDg pmDg cdDg ctDg : Value} {fDp : Addr} {odDp anDp : Option Addr} {slDp : Array (Option Value)} {ocDp kVDp dcDp pmDp cdDp ctDp : Value} {fDn : Addr} {odDn anDn : Option Addr} {slDn : Array (Option Value)} {ocDn kVDn dcDn pmDn cdDn ctDn : Value} {fDv : Addr} {odDv anDv : Option Addr} {slDv : Array (Option Value)} {ocDv kVDv dcDv pmDv cdDv ctDv : Value} {fPI : Addr} {odPI anPI : Option Addr} {slPI : Array (Option Value)} {ocPI kVPI dcPI pmPI cdPI ctPI : Value} {fFo : Addr} {odFo anFo : Option Addr} {slFo : Array (Option Value)} {ocFo kVFo dcFo pmFo cdFo ctFo : Value} {fII : Addr} {odII anII : Option Addr} {slII : Array (Option Value)} {ocII kVII dcII pmII cdII ctII : Value} {fWI : Addr} {odWI anWI : Option Addr} {slWI : Array (Option Value)} {ocWI kVWI dcWI pmWI cdWI ctWI : Value} {fMI : Addr} {odMI anMI : Option Addr} {slMI : Array (Option Value)} {ocMI kVMI dcMI pmMI cdMI ctMI : Value} {fWM : Addr} {odWM anWM : Option Addr} {slWM : Array (Option Value)} {ocWM kVWM dcWM pmWM cdWM ctWM : Value} {fTI : Addr} {odTI anTI : Option Addr} {slTI : Array (Option Value)} {ocTI kVTI dcTI pmTI cdTI ctTI : Value} {fTs : Addr} {odTs anTs : Option Addr} {slTs : Array (Option Value)} {ocTs kVTs dcTs pmTs cdTs ctTs : Value} {fTu : Addr} {odTu anTu : Option Addr} {slTu : Array (Option Value)} {ocTu kVTu dcTu pmTu cdTu ctTu : Value} {fTp : Addr} {odTp anTp : Option Addr} {slTp : Array (Option Value)} {ocTp kVTp dcTp pmTp cdTp ctTp : Value} {fTx : Addr} {odTx anTx : Option Addr} {slTx : Array (Option Value)} {ocTx kVTx dcTx pmTx cdTx ctTx : Value} {fTn : Addr} {odTn anTn : Option Addr} {slTn : Array (Option Value)} {ocTn kVTn dcTn pmTn cdTn ctTn : Value} {fTg : Addr} {odTg anTg : Option Addr} {slTg : Array (Option Value)} {ocTg kVTg dcTg pmTg cdTg ctTg : Value} {fTq : Addr} {odTq anTq : Option Addr} {slTq : Array (Option Value)} {ocTq kVTq dcTq pmTq cdTq ctTq : Value} {fTc : Addr} {odTc anTc : Option Addr} {slTc : Array (Option Value)} {ocTc kVTc dcTc pmTc cdTc ctTc : Value} {fTa : Addr} {odTa anTa : Option Addr} {slTa : Array (Option Value)} {ocTa kVTa dcTa pmTa cdTa ctTa : Value} {fTo : Addr} {odTo anTo : Option Addr} {slTo : Array (Option Value)} {ocTo kVTo dcTo pmTo cdTo ctTo : Value} {fTm : Addr} {odTm anTm : Option Addr} {slTm : Array (Option Value)} {ocTm kVTm dcTm pmTm cdTm ctTm : Value} {fRI : Addr} {fRM : Addr} {fTf : Addr} {odTf anTf : Option Addr} {slTf : Array (Option Value)} {ocTf kVTf dcTf pmTf cdTf ctTf : Value} {fHI TDHI edHI : Addr} {odHI anHI : Option Addr} {slHI : Array (Option Value)} {ocHI kVHI dcHI pmHI cdHI ctHI : Value} {oTHI oEHI : Obj} {nTHI nEHI : Nat} {fHt : Addr} {odHt anHt : Option Addr} {slHt : Array (Option Value)} {ocHt kVHt dcHt pmHt cdHt ctHt : Value} {fHl : Addr} {odHl anHl : Option Addr} {slHl : Array (Option Value)} {ocHl kVHl dcHl pmHl cdHl ctHl : Value} {fHk : Addr} {odHk anHk : Option Addr} {slHk : Array (Option Value)} {ocHk kVHk dcHk pmHk cdHk ctHk : Value} {fdis : Addr} {oddis andis : Option Addr} {sldis : Array (Option Value)} {ocdis kVdis dcdis pmdis cddis ctdis : Value} {fsof : Addr} {odsof ansof : Option Addr} {slsof : Array (Option Value)} {ocsof kVsof dcsof pmsof cdsof ctsof : Value} {fpool : Addr} {odpool anpool : Option Addr} {slpool : Array (Option Value)} {ocpool kVpool dcpool pmpool cdpool ctpool : Value} {ftake : Addr} {odtake antake : Option Addr} {sltake : Array (Option Value)} {octake kVtake dctake pmtake cdtake cttake : Value} {fbase : Addr} {odbase anbase : Option Addr} {slbase : Array (Option Value)} {ocbase kVbase dcbase pmbase cdbase ctbase : Value} {fname : Addr} {odname anname : Option Addr} {slname : Array (Option Value)} {ocname kVname dcname pmname cdname ctname : Value} {fsom : Addr} {odsom ansom : Option Addr} {slsom : Array (Option Value)} {ocsom kVsom dcsom pmsom cdsom ctsom : Value} {fkin : Addr} {odkin ankin : Option Addr} {slkin : Array (Option Value)} {ockin kVkin dckin pmkin cdkin ctkin : Value} {fkns : Addr} {odkns ankns : Option Addr} {slkns : Array (Option Value)} {ockns kVkns dckns pmkns cdkns ctkns : Value} {fpar : Addr} {odpar anpar : Option Addr} {slpar : Array (Option Value)} {ocpar kVpar dcpar pmpar cdpar ctpar : Value} {fspo : Addr} {odspo anspo : Option Addr} {slspo : Array (Option Value)} {ocspo kVspo dcspo pmspo cdspo ctspo : Value} {fpla : Addr} {odpla anpla : Option Addr} {slpla : Array (Option Value)} {ocpla kVpla dcpla pmpla cdpla ctpla : Value} {fpre : Addr} {odpre anpre : Option Addr} {slpre : Array (Option Value)} {ocpre kVpre dcpre pmpre cdpre ctpre : Value} {fist : Addr} {odist anist : Option Addr} {slist : Array (Option Value)} {ocist kVist dcist pmist cdist ctist : Value} {flop : Addr} {odlop anlop : Option Addr} {sllop : Array (Option Value)} {oclop kVlop dclop pmlop cdlop ctlop : Value} {flun : Addr} {odlun anlun : Option Addr} {sllun : Array (Option Value)} {oclun kVlun dclun pmlun cdlun ctlun : Value} {flof : Addr} {odlof anlof : Option Addr} {sllof : Array (Option Value)} {oclof kVlof dclof pmlof cdlof ctlof : Value} {ftkn : Addr} {odtkn antkn : Option Addr} {sltkn : Array (Option Value)} {octkn kVtkn dctkn pmtkn cdtkn cttkn : Value} {foff : Addr} {odoff anoff : Option Addr} {sloff : Array (Option Value)} {ocoff kVoff dcoff pmoff cdoff ctoff : Value} {fagr : Addr} {odagr anagr : Option Addr} {slagr : Array (Option Value)} {ocagr kVagr dcagr pmagr cdagr ctagr : Value} {flaw : Addr} {odlaw anlaw : Option Addr} {sllaw : Array (Option Value)} {oclaw kVlaw dclaw pmlaw cdlaw ctlaw : Value}
    (z0 : PySem.W.nsIn K mainGlobals "len" = some none)
    (z1 : PySem.W.nsIn K mainGlobals "int" = some none)
    (z2 : PySem.W.nsIn K mainGlobals "range" = some none)
    (z3 : PySem.W.nsIn K mainGlobals "tuple" = some none)
    (z4 : PySem.W.nsIn K mainGlobals "list" = some none)
    (z5 : PySem.W.nsIn K mainGlobals "isinstance" = some none)
    (z6 : PySem.W.nsIn K mainGlobals "iter" = some none)
    (z7 : PySem.W.nsIn K mainGlobals "zip" = some none)
    (z8 : PySem.W.nsIn K mainGlobals "min" = some none)
    (aR : PySem.W.nsIn K mainGlobals "Repeated" = some (some (.ref ER)))
    (xR : K.lookup ER = some (excClassObj nmR qR ER NR bsR bmR true snR subR abR colR ddR m0R m1R m2R m3R m5R "ValueError.__new__"))
    (rvR : HandSPX.refsVE bmR = true)
    (saR : PySem.W.findIn K (.ref ER) "__setattr__" = some (some (.builtin "object.__setattr__")))
    (gaR : PySem.W.findIn K (.ref ER) "__getattribute__" = some (some (.builtin "BaseException.__getattribute__")))
    (ggR : PySem.W.findIn K (.ref ER) "__getattr__" = some none)
    (n0R : PySem.W.findIn K (.ref ER) "name" = some none)
    (eR : PySem.W.subIn K (.ref ER) (.type "BaseException") = some true)
    (tR : PySem.W.typeIn K (.ref ER) = some (.type "type"))
    (kCR : PySem.W.keepIn K (.ref ER) = true)
    (hCR : PySem.W.hasDictIn K ER = true)
    (iCR : PySem.W.isClsIn K ER = true)
    (sCR : PySem.W.subIn K (.ref ER) (.ref ER) = some true)
    (aiR : PySem.W.findIn K (.ref ER) "__init__" = some (some (.ref fR)))
    (tiR : PySem.W.typeIn K (.ref fR) = some (.type "function"))
    (lR : K.lookup fR = some ⟨ocR, odR, .func (PySem.W.fnX "__init__" "Repeated.__init__" (defArgs sRepeatedInit) (defBody sRepeatedInit) (defScope sRepeatedInit) [("__class__", ccR)] .none kVR dcR pmR anR (.ref cdaR) ctR), slR⟩)
    (cR : PySem.W.codeIn K (.ref cdaR) "Repeated.__init__" = true)
    (lcR : K.lookup cdaR = some ⟨cclR, cddR, .fields vsR, ccsR⟩)
    (hvR : vsR[2]? = some (.str fileR tfR))
    (hfR : (P.main.file == fileR) = true)
    (ceR : K.lookup ccR = some ⟨clR, cldR, .cell (some (.ref ER)), cslR⟩)
    (cdR : PySem.W.clsIn K ER = some cdDR)
    (ovR : PySem.W.ks_superIn K ER ER "__init__" = some (some (.builtin "ValueError.__init__")))
    (svR : PySem.W.subIn K (.ref ER) (.type "ValueError") = some true)
    (mrR : PySem.W.mroIn K ER (.ref ER) = some true)
    (z9 : PySem.W.nsIn K mainGlobals "super" = some none)
    (top : (P.main.scope.names.lookup ("super" : Str)).isSome = false)
    (any : PySem.W.nsIn K cStatics "thirdparty.any" = some none)
    (aU : PySem.W.nsIn K mainGlobals "Unknown" = some (some (.ref EU)))
    (xU : K.lookup EU = some (excClassObj nmU qU EU NU bsU bmU true snU subU abU colU ddU m0U m1U m2U m3U m5U "ValueError.__new__"))
    (rvU : HandSPX.refsVE bmU = true)
    (saU : PySem.W.findIn K (.ref EU) "__setattr__" = some (some (.builtin "object.__setattr__")))
    (gaU : PySem.W.findIn K (.ref EU) "__getattribute__" = some (some (.builtin "BaseException.__getattribute__")))
    (ggU : PySem.W.findIn K (.ref EU) "__getattr__" = some none)
    (n0U : PySem.W.findIn K (.ref EU) "name" = some none)
    (eU : PySem.W.subIn K (.ref EU) (.type "BaseException") = some true)
    (tU : PySem.W.typeIn K (.ref EU) = some (.type "type"))
    (kCU : PySem.W.keepIn K (.ref EU) = true)
    (hCU : PySem.W.hasDictIn K EU = true)
    (iCU : PySem.W.isClsIn K EU = true)
    (sCU : PySem.W.subIn K (.ref EU) (.ref EU) = some true)
    (aiU : PySem.W.findIn K (.ref EU) "__init__" = some (some (.ref fU)))
    (tiU : PySem.W.typeIn K (.ref fU) = some (.type "function"))
    (lU : K.lookup fU = some ⟨ocU, odU, .func (PySem.W.fnX "__init__" "Unknown.__init__" (defArgs sUnknownInit) (defBody sUnknownInit) (defScope sUnknownInit) [("__class__", ccU)] .none kVU dcU pmU anU (.ref cdaU) ctU), slU⟩)
    (cU : PySem.W.codeIn K (.ref cdaU) "Unknown.__init__" = true)
    (lcU : K.lookup cdaU = some ⟨cclU, cddU, .fields vsU, ccsU⟩)
    (hvU : vsU[2]? = some (.str fileU tfU))
    (hfU : (P.main.file == fileU) = true)
    (ceU : K.lookup ccU = some ⟨clU, cldU, .cell (some (.ref EU)), cslU⟩)
    (cdU : PySem.W.clsIn K EU = some cdDU)
    (ovU : PySem.W.ks_superIn K EU EU "__init__" = some (some (.builtin "ValueError.__init__")))
    (svU : PySem.W.subIn K (.ref EU) (.type "ValueError") = some true)
    (mrU : PySem.W.mroIn K EU (.ref EU) = some true)
    (aN : PySem.W.nsIn K mainGlobals "NoStep" = some (some (.ref EN)))
    (xN : K.lookup EN = some (excClassObj nmN qN EN NN bsN bmN true snN subN abN colN ddN m0N m1N m2N m3N m5N "ValueError.__new__"))
    (rvN : HandSPX.refsVE bmN = true)
    (saN : PySem.W.findIn K (.ref EN) "__setattr__" = some (some (.builtin "object.__setattr__")))
    (gaN : PySem.W.findIn K (.ref EN) "__getattribute__" = some (some (.builtin "BaseException.__getattribute__")))
    (ggN : PySem.W.findIn K (.ref EN) "__getattr__" = some none)
    (n0N : PySem.W.findIn K (.ref EN) "before" = some none)
    (n1N : PySem.W.findIn K (.ref EN) "after" = some none)
    (eN : PySem.W.subIn K (.ref EN) (.type "BaseException") = some true)
    (tN : PySem.W.typeIn K (.ref EN) = some (.type "type"))
    (kCN : PySem.W.keepIn K (.ref EN) = true)
    (hCN : PySem.W.hasDictIn K EN = true)
    (iCN : PySem.W.isClsIn K EN = true)
    (sCN : PySem.W.subIn K (.ref EN) (.ref EN) = some true)
    (aiN : PySem.W.findIn K (.ref EN) "__init__" = some (some (.ref fN)))
    (tiN : PySem.W.typeIn K (.ref fN) = some (.type "function"))
    (lN : K.lookup fN = some ⟨ocN, odN, .func (PySem.W.fnX "__init__" "NoStep.__init__" (defArgs sNoStepInit) (defBody sNoStepInit) (defScope sNoStepInit) [("__class__", ccN)] .none kVN dcN pmN anN (.ref cdaN) ctN), slN⟩)
    (cN : PySem.W.codeIn K (.ref cdaN) "NoStep.__init__" = true)
    (lcN : K.lookup cdaN = some ⟨cclN, cddN, .fields vsN, ccsN⟩)
    (hvN : vsN[2]? = some (.str fileN tfN))
    (hfN : (P.main.file == fileN) = true)
    (ceN : K.lookup ccN = some ⟨clN, cldN, .cell (some (.ref EN)), cslN⟩)
    (cdN : PySem.W.clsIn K EN = some cdDN)
    (ovN : PySem.W.ks_superIn K EN EN "__init__" = some (some (.builtin "ValueError.__init__")))
    (svN : PySem.W.subIn K (.ref EN) (.type "ValueError") = some true)
    (mrN : PySem.W.mroIn K EN (.ref EN) = some true)
    (aCS : PySem.W.nsIn K mainGlobals "Steps" = some (some (.ref CS)))
    (pgCS : PySem.W.plainGet K CS Str.empty = true)
    (hdCS : PySem.W.hasDictIn K CS = true)
    (poCS : PySem.W.plainOver K CS = true)
    (saCS : PySem.W.findIn K (.ref CS) "__setattr__" = some (some (.builtin "object.__setattr__")))
    (mkCS : PySem.W.makesIn K CS = true)
    (kcCS : PySem.W.keepIn K (.ref CS) = true)
    (aCD : PySem.W.nsIn K mainGlobals "Doors" = some (some (.ref CD)))
    (pgCD : PySem.W.plainGet K CD Str.empty = true)
    (hdCD : PySem.W.hasDictIn K CD = true)
    (poCD : PySem.W.plainOver K CD = true)
    (saCD : PySem.W.findIn K (.ref CD) "__setattr__" = some (some (.builtin "object.__setattr__")))
    (mkCD : PySem.W.makesIn K CD = true)
    (kcCD : PySem.W.keepIn K (.ref CD) = true)
    (aCP : PySem.W.nsIn K mainGlobals "Part" = some (some (.ref CP)))
    (pgCP : PySem.W.plainGet K CP Str.empty = true)
    (hdCP : PySem.W.hasDictIn K CP = true)
    (poCP : PySem.W.plainOver K CP = true)
    (saCP : PySem.W.findIn K (.ref CP) "__setattr__" = some (some (.builtin "object.__setattr__")))
    (mkCP : PySem.W.makesIn K CP = true)
    (kcCP : PySem.W.keepIn K (.ref CP) = true)
    (aCI : PySem.W.nsIn K mainGlobals "Single" = some (some (.ref CI)))
    (pgCI : PySem.W.plainGet K CI Str.empty = true)
    (hdCI : PySem.W.hasDictIn K CI = true)
    (poCI : PySem.W.plainOver K CI = true)
    (saCI : PySem.W.findIn K (.ref CI) "__setattr__" = some (some (.builtin "object.__setattr__")))
    (mkCI : PySem.W.makesIn K CI = true)
    (kcCI : PySem.W.keepIn K (.ref CI) = true)
    (aCM : PySem.W.nsIn K mainGlobals "Many" = some (some (.ref CM)))
    (pgCM : PySem.W.plainGet K CM Str.empty = true)
    (hdCM : PySem.W.hasDictIn K CM = true)
    (poCM : PySem.W.plainOver K CM = true)
    (saCM : PySem.W.findIn K (.ref CM) "__setattr__" = some (some (.builtin "object.__setattr__")))
    (mkCM : PySem.W.makesIn K CM = true)
    (kcCM : PySem.W.keepIn K (.ref CM) = true)
    (aCT : PySem.W.nsIn K mainGlobals "Site" = some (some (.ref CT)))
    (pgCT : PySem.W.plainGet K CT Str.empty = true)
    (hdCT : PySem.W.hasDictIn K CT = true)
    (poCT : PySem.W.plainOver K CT = true)
    (saCT : PySem.W.findIn K (.ref CT) "__setattr__" = some (some (.builtin "object.__setattr__")))
    (mkCT : PySem.W.makesIn K CT = true)
    (kcCT : PySem.W.keepIn K (.ref CT) = true)
    (aCH : PySem.W.nsIn K mainGlobals "Hold" = some (some (.ref CH)))
    (pgCH : PySem.W.plainGet K CH Str.empty = true)
    (hdCH : PySem.W.hasDictIn K CH = true)
    (poCH : PySem.W.plainOver K CH = true)
    (saCH : PySem.W.findIn K (.ref CH) "__setattr__" = some (some (.builtin "object.__setattr__")))
    (mkCH : PySem.W.makesIn K CH = true)
    (kcCH : PySem.W.keepIn K (.ref CH) = true)
    (lSI : K.lookup fSI = some ⟨ocSI, odSI, .func (PySem.W.fnOf "__init__" "Steps.__init__" (defArgs sStepsInit) (defBody sStepsInit) (defScope sStepsInit) .none kVSI dcSI pmSI anSI cdSI ctSI), slSI⟩)
    (cSI : PySem.W.codeIn K cdSI "Steps.__init__" = true)
    (kSI : PySem.W.keepIn K (.ref fSI) = true)
    (iSI : PySem.W.isFn K (.ref fSI) = true)
    (lSt : K.lookup fSt = some ⟨ocSt, odSt, .func (PySem.W.fnOf "standings" "Steps.standings" (defArgs sStepsStandings) (defBody sStepsStandings) (defScope sStepsStandings) .none kVSt dcSt pmSt anSt cdSt ctSt), slSt⟩)
    (cSt : PySem.W.codeIn K cdSt "Steps.standings" = true)
    (kSt : PySem.W.keepIn K (.ref fSt) = true)
    (iSt : PySem.W.isFn K (.ref fSt) = true)
    (lAl : K.lookup fAl = some ⟨ocAl, odAl, .func (PySem.W.fnOf "allow" "Steps.allow" (defArgs sStepsAllow) (defBody sStepsAllow) (defScope sStepsAllow) .none kVAl dcAl pmAl anAl cdAl ctAl), slAl⟩)
    (cAl : PySem.W.codeIn K cdAl "Steps.allow" = true)
    (kAl : PySem.W.keepIn K (.ref fAl) = true)
    (iAl : PySem.W.isFn K (.ref fAl) = true)
    (lFr : K.lookup fFr = some ⟨ocFr, odFr, .func (PySem.W.fnOf "steps_from" "Steps.steps_from" (defArgs sStepsStepsFrom) (defBody sStepsStepsFrom) (defScope sStepsStepsFrom) .none kVFr dcFr pmFr anFr cdFr ctFr), slFr⟩)
    (cFr : PySem.W.codeIn K cdFr "Steps.steps_from" = true)
    (kFr : PySem.W.keepIn K (.ref fFr) = true)
    (iFr : PySem.W.isFn K (.ref fFr) = true)
    (lDI : K.lookup fDI = some ⟨ocDI, odDI, .func (PySem.W.fnOf "__init__" "Doors.__init__" (defArgs sDoorsInit) (defBody sDoorsInit) (defScope sDoorsInit) .none kVDI dcDI pmDI anDI cdDI ctDI), slDI⟩)
    (cDI : PySem.W.codeIn K cdDI "Doors.__init__" = true)
    (kDI : PySem.W.keepIn K (.ref fDI) = true)
    (iDI : PySem.W.isFn K (.ref fDI) = true)
    (lDt : K.lookup fDt = some ⟨ocDt, odDt, .func (PySem.W.fnOf "__iter__" "Doors.__iter__" (defArgs sDoorsIter) (defBody sDoorsIter) (defScope sDoorsIter) .none kVDt dcDt pmDt anDt cdDt ctDt), slDt⟩)
    (cDt : PySem.W.codeIn K cdDt "Doors.__iter__" = true)
    (kDt : PySem.W.keepIn K (.ref fDt) = true)
    (iDt : PySem.W.isFn K (.ref fDt) = true)
    (lDg : K.lookup fDg = some ⟨ocDg, odDg, .func (PySem.W.fnOf "__getitem__" "Doors.__getitem__" (defArgs sDoorsGet) (defBody sDoorsGet) (defScope sDoorsGet) .none kVDg dcDg pmDg anDg cdDg ctDg), slDg⟩)
    (cDg : PySem.W.codeIn K cdDg "Doors.__getitem__" = true)
    (kDg : PySem.W.keepIn K (.ref fDg) = true)
    (iDg : PySem.W.isFn K (.ref fDg) = true)
    (lDp : K.lookup fDp = some ⟨ocDp, odDp, .func (PySem.W.fnOf "__setitem__" "Doors.__setitem__" (defArgs sDoorsPut) (defBody sDoorsPut) (defScope sDoorsPut) .none kVDp dcDp pmDp anDp cdDp ctDp), slDp⟩)
    (cDp : PySem.W.codeIn K cdDp "Doors.__setitem__" = true)
    (kDp : PySem.W.keepIn K (.ref fDp) = true)
    (iDp : PySem.W.isFn K (.ref fDp) = true)
    (lDn : K.lookup fDn = some ⟨ocDn, odDn, .func (PySem.W.fnOf "needs" "Doors.needs" (defArgs sDoorsNeeds) (defBody sDoorsNeeds) (defScope sDoorsNeeds) .none kVDn dcDn pmDn anDn cdDn ctDn), slDn⟩)
    (cDn : PySem.W.codeIn K cdDn "Doors.needs" = true)
    (kDn : PySem.W.keepIn K (.ref fDn) = true)
    (iDn : PySem.W.isFn K (.ref fDn) = true)
    (lDv : K.lookup fDv = some ⟨ocDv, odDv, .func (PySem.W.fnOf "gives" "Doors.gives" (defArgs sDoorsGives) (defBody sDoorsGives) (defScope sDoorsGives) .none kVDv dcDv pmDv anDv cdDv ctDv), slDv⟩)
    (cDv : PySem.W.codeIn K cdDv "Doors.gives" = true)
    (kDv : PySem.W.keepIn K (.ref fDv) = true)
    (iDv : PySem.W.isFn K (.ref fDv) = true)
    (lPI : K.lookup fPI = some ⟨ocPI, odPI, .func (PySem.W.fnOf "__init__" "Part.__init__" (defArgs sPartInit) (defBody sPartInit) (defScope sPartInit) .none kVPI dcPI pmPI anPI cdPI ctPI), slPI⟩)
    (cPI : PySem.W.codeIn K cdPI "Part.__init__" = true)
    (kPI : PySem.W.keepIn K (.ref fPI) = true)
    (iPI : PySem.W.isFn K (.ref fPI) = true)
    (lFo : K.lookup fFo = some ⟨ocFo, odFo, .func (PySem.W.fnOf "_follow" "Part._follow" (defArgs sPartFollow) (defBody sPartFollow) (defScope sPartFollow) .none kVFo dcFo pmFo anFo cdFo ctFo), slFo⟩)
    (cFo : PySem.W.codeIn K cdFo "Part._follow" = true)
    (kFo : PySem.W.keepIn K (.ref fFo) = true)
    (iFo : PySem.W.isFn K (.ref fFo) = true)
    (lII : K.lookup fII = some ⟨ocII, odII, .func (PySem.W.fnOf "__init__" "Single.__init__" (defArgs sSingleInit) (defBody sSingleInit) (defScope sSingleInit) .none kVII dcII pmII anII cdII ctII), slII⟩)
    (cII : PySem.W.codeIn K cdII "Single.__init__" = true)
    (kII : PySem.W.keepIn K (.ref fII) = true)
    (iII : PySem.W.isFn K (.ref fII) = true)
    (lWI : K.lookup fWI = some ⟨ocWI, odWI, .func (PySem.W.fnOf "twin" "Single.twin" (defArgs sSingleTwin) (defBody sSingleTwin) (defScope sSingleTwin) .none kVWI dcWI pmWI anWI cdWI ctWI), slWI⟩)
    (cWI : PySem.W.codeIn K cdWI "Single.twin" = true)
    (kWI : PySem.W.keepIn K (.ref fWI) = true)
    (iWI : PySem.W.isFn K (.ref fWI) = true)
    (lMI : K.lookup fMI = some ⟨ocMI, odMI, .func (PySem.W.fnOf "__init__" "Many.__init__" (defArgs sManyInit) (defBody sManyInit) (defScope sManyInit) .none kVMI dcMI pmMI anMI cdMI ctMI), slMI⟩)
    (cMI : PySem.W.codeIn K cdMI "Many.__init__" = true)
    (kMI : PySem.W.keepIn K (.ref fMI) = true)
    (iMI : PySem.W.isFn K (.ref fMI) = true)
    (lWM : K.lookup fWM = some ⟨ocWM, odWM, .func (PySem.W.fnOf "twin" "Many.twin" (defArgs sManyTwin) (defBody sManyTwin) (defScope sManyTwin) .none kVWM dcWM pmWM anWM cdWM ctWM), slWM⟩)
    (cWM : PySem.W.codeIn K cdWM "Many.twin" = true)
    (kWM : PySem.W.keepIn K (.ref fWM) = true)
    (iWM : PySem.W.isFn K (.ref fWM) = true)
    (lTI : K.lookup fTI = some ⟨ocTI, odTI, .func (PySem.W.fnOf "__init__" "Site.__init__" (defArgs sSiteInit) (defBody sSiteInit) (defScope sSiteInit) .none kVTI dcTI pmTI anTI cdTI ctTI), slTI⟩)
    (cTI : PySem.W.codeIn K cdTI "Site.__init__" = true)
    (kTI : PySem.W.keepIn K (.ref fTI) = true)
    (iTI : PySem.W.isFn K (.ref fTI) = true)
    (lTs : K.lookup fTs = some ⟨ocTs, odTs, .func (PySem.W.fnOf "singles" "Site.singles" (defArgs sSiteSingles) (defBody sSiteSingles) (defScope sSiteSingles) .none kVTs dcTs pmTs anTs cdTs ctTs), slTs⟩)
    (cTs : PySem.W.codeIn K cdTs "Site.singles" = true)
    (kTs : PySem.W.keepIn K (.ref fTs) = true)
    (iTs : PySem.W.isFn K (.ref fTs) = true)
    (lTu : K.lookup fTu = some ⟨ocTu, odTu, .func (PySem.W.fnOf "opened" "Site.opened" (defArgs sSiteOpened) (defBody sSiteOpened) (defScope sSiteOpened) .none kVTu dcTu pmTu anTu cdTu ctTu), slTu⟩)
    (cTu : PySem.W.codeIn K cdTu "Site.opened" = true)
    (kTu : PySem.W.keepIn K (.ref fTu) = true)
    (iTu : PySem.W.isFn K (.ref fTu) = true)
    (lTp : K.lookup fTp = some ⟨ocTp, odTp, .func (PySem.W.fnOf "spots" "Site.spots" (defArgs sSiteSpots) (defBody sSiteSpots) (defScope sSiteSpots) .none kVTp dcTp pmTp anTp cdTp ctTp), slTp⟩)
    (cTp : PySem.W.codeIn K cdTp "Site.spots" = true)
    (kTp : PySem.W.keepIn K (.ref fTp) = true)
    (iTp : PySem.W.isFn K (.ref fTp) = true)
    (lTx : K.lookup fTx = some ⟨ocTx, odTx, .func (PySem.W.fnOf "unmet" "Site.unmet" (defArgs sSiteUnmet) (defBody sSiteUnmet) (defScope sSiteUnmet) .none kVTx dcTx pmTx anTx cdTx ctTx), slTx⟩)
    (cTx : PySem.W.codeIn K cdTx "Site.unmet" = true)
    (kTx : PySem.W.keepIn K (.ref fTx) = true)
    (iTx : PySem.W.isFn K (.ref fTx) = true)
    (lTn : K.lookup fTn = some ⟨ocTn, odTn, .func (PySem.W.fnOf "needs_at" "Site.needs_at" (defArgs sSiteNeedsAt) (defBody sSiteNeedsAt) (defScope sSiteNeedsAt) .none kVTn dcTn pmTn anTn cdTn ctTn), slTn⟩)
    (cTn : PySem.W.codeIn K cdTn "Site.needs_at" = true)
    (kTn : PySem.W.keepIn K (.ref fTn) = true)
    (iTn : PySem.W.isFn K (.ref fTn) = true)
    (lTg : K.lookup fTg = some ⟨ocTg, odTg, .func (PySem.W.fnOf "gives_at" "Site.gives_at" (defArgs sSiteGivesAt) (defBody sSiteGivesAt) (defScope sSiteGivesAt) .none kVTg dcTg pmTg anTg cdTg ctTg), slTg⟩)
    (cTg : PySem.W.codeIn K cdTg "Site.gives_at" = true)
    (kTg : PySem.W.keepIn K (.ref fTg) = true)
    (iTg : PySem.W.isFn K (.ref fTg) = true)
    (lTq : K.lookup fTq = some ⟨ocTq, odTq, .func (PySem.W.fnOf "present" "Site.present" (defArgs sSitePresent) (defBody sSitePresent) (defScope sSitePresent) .none kVTq dcTq pmTq anTq cdTq ctTq), slTq⟩)
    (cTq : PySem.W.codeIn K cdTq "Site.present" = true)
    (kTq : PySem.W.keepIn K (.ref fTq) = true)
    (iTq : PySem.W.isFn K (.ref fTq) = true)
    (lTc : K.lookup fTc = some ⟨ocTc, odTc, .func (PySem.W.fnOf "check_names" "Site.check_names" (defArgs sSiteCheckNames) (defBody sSiteCheckNames) (defScope sSiteCheckNames) .none kVTc dcTc pmTc anTc cdTc ctTc), slTc⟩)
    (cTc : PySem.W.codeIn K cdTc "Site.check_names" = true)
    (kTc : PySem.W.keepIn K (.ref fTc) = true)
    (iTc : PySem.W.isFn K (.ref fTc) = true)
    (lTa : K.lookup fTa = some ⟨ocTa, odTa, .func (PySem.W.fnOf "all_standings" "Site.all_standings" (defArgs sSiteAllStandings) (defBody sSiteAllStandings) (defScope sSiteAllStandings) .none kVTa dcTa pmTa anTa cdTa ctTa), slTa⟩)
    (cTa : PySem.W.codeIn K cdTa "Site.all_standings" = true)
    (kTa : PySem.W.keepIn K (.ref fTa) = true)
    (iTa : PySem.W.isFn K (.ref fTa) = true)
    (lTo : K.lookup fTo = some ⟨ocTo, odTo, .func (PySem.W.fnOf "single_standings" "Site.single_standings" (defArgs sSiteSingleStandings) (defBody sSiteSingleStandings) (defScope sSiteSingleStandings) .none kVTo dcTo pmTo anTo cdTo ctTo), slTo⟩)
    (cTo : PySem.W.codeIn K cdTo "Site.single_standings" = true)
    (kTo : PySem.W.keepIn K (.ref fTo) = true)
    (iTo : PySem.W.isFn K (.ref fTo) = true)
    (lTm : K.lookup fTm = some ⟨ocTm, odTm, .func (PySem.W.fnOf "many_standings" "Site.many_standings" (defArgs sSiteManyStandings) (defBody sSiteManyStandings) (defScope sSiteManyStandings) .none kVTm dcTm pmTm anTm cdTm ctTm), slTm⟩)
    (cTm : PySem.W.codeIn K cdTm "Site.many_standings" = true)
    (kTm : PySem.W.keepIn K (.ref fTm) = true)
    (iTm : PySem.W.isFn K (.ref fTm) = true)
    (figDg : PySem.W.fnIn K fDg = true)
    (figDp : PySem.W.fnIn K fDp = true)
    (kRI : PySem.W.keepIn K (.ref fRI) = true)
    (iRI : PySem.W.isFn K (.ref fRI) = true)
    (kRM : PySem.W.keepIn K (.ref fRM) = true)
    (iRM : PySem.W.isFn K (.ref fRM) = true)
    (nsCP : PySem.W.findIn K (.ref CP) "_steps" = some none)
    (ndCP : PySem.W.findIn K (.ref CP) "_doors" = some none)
    (nnCP : PySem.W.findIn K (.ref CP) "name" = some none)
    (nqCP : PySem.W.noSeq K CP = true)
    (m_CP_Al : PySem.W.findIn K (.ref CP) "allow" = some (some (.ref fAl)))
    (m_CP_St : PySem.W.findIn K (.ref CP) "standings" = some (some (.ref fSt)))
    (m_CP_Fr : PySem.W.findIn K (.ref CP) "steps_from" = some (some (.ref fFr)))
    (m_CP_Dn : PySem.W.findIn K (.ref CP) "needs" = some (some (.ref fDn)))
    (m_CP_Dv : PySem.W.findIn K (.ref CP) "gives" = some (some (.ref fDv)))
    (g_CP : PySem.W.findIn K (.ref CP) "__getitem__" = some (some (.ref fDg)))
    (p_CP : PySem.W.findIn K (.ref CP) "__setitem__" = some (some (.ref fDp)))
    (t_CP : PySem.W.findIn K (.ref CP) "__iter__" = some (some (.ref fDt)))
    (inCP : PySem.W.findIn K (.ref CP) "__init__" = some (some (.ref fPI)))
    (nsCI : PySem.W.findIn K (.ref CI) "_steps" = some none)
    (ndCI : PySem.W.findIn K (.ref CI) "_doors" = some none)
    (nnCI : PySem.W.findIn K (.ref CI) "name" = some none)
    (nqCI : PySem.W.noSeq K CI = true)
    (m_CI_Al : PySem.W.findIn K (.ref CI) "allow" = some (some (.ref fAl)))
    (m_CI_St : PySem.W.findIn K (.ref CI) "standings" = some (some (.ref fSt)))
    (m_CI_Fr : PySem.W.findIn K (.ref CI) "steps_from" = some (some (.ref fFr)))
    (m_CI_Dn : PySem.W.findIn K (.ref CI) "needs" = some (some (.ref fDn)))
    (m_CI_Dv : PySem.W.findIn K (.ref CI) "gives" = some (some (.ref fDv)))
    (g_CI : PySem.W.findIn K (.ref CI) "__getitem__" = some (some (.ref fDg)))
    (p_CI : PySem.W.findIn K (.ref CI) "__setitem__" = some (some (.ref fDp)))
    (t_CI : PySem.W.findIn K (.ref CI) "__iter__" = some (some (.ref fDt)))
    (inCI : PySem.W.findIn K (.ref CI) "__init__" = some (some (.ref fII)))
    (nsCM : PySem.W.findIn K (.ref CM) "_steps" = some none)
    (ndCM : PySem.W.findIn K (.ref CM) "_doors" = some none)
    (nnCM : PySem.W.findIn K (.ref CM) "name" = some none)
    (nqCM : PySem.W.noSeq K CM = true)
    (m_CM_Al : PySem.W.findIn K (.ref CM) "allow" = some (some (.ref fAl)))
    (m_CM_St : PySem.W.findIn K (.ref CM) "standings" = some (some (.ref fSt)))
    (m_CM_Fr : PySem.W.findIn K (.ref CM) "steps_from" = some (some (.ref fFr)))
    (m_CM_Dn : PySem.W.findIn K (.ref CM) "needs" = some (some (.ref fDn)))
    (m_CM_Dv : PySem.W.findIn K (.ref CM) "gives" = some (some (.ref fDv)))
    (g_CM : PySem.W.findIn K (.ref CM) "__getitem__" = some (some (.ref fDg)))
    (p_CM : PySem.W.findIn K (.ref CM) "__setitem__" = some (some (.ref fDp)))
    (t_CM : PySem.W.findIn K (.ref CM) "__iter__" = some (some (.ref fDt)))
    (inCM : PySem.W.findIn K (.ref CM) "__init__" = some (some (.ref fMI)))
    (m_CI_RI : PySem.W.findIn K (.ref CI) "row" = some (some (.ref fRI)))
    (m_CI_Fo : PySem.W.findIn K (.ref CI) "_follow" = some (some (.ref fFo)))
    (m_CI_WI : PySem.W.findIn K (.ref CI) "twin" = some (some (.ref fWI)))
    (m_CM_RM : PySem.W.findIn K (.ref CM) "row" = some (some (.ref fRM)))
    (m_CM_Fo : PySem.W.findIn K (.ref CM) "_follow" = some (some (.ref fFo)))
    (m_CM_WM : PySem.W.findIn K (.ref CM) "twin" = some (some (.ref fWM)))
    (icCI : PySem.W.isClsIn K CI = true)
    (tyCI : PySem.W.typeIn K (.ref CI) = some (.type "type"))
    (icCM : PySem.W.isClsIn K CM = true)
    (tyCM : PySem.W.typeIn K (.ref CM) = some (.type "type"))
    (cn : PySem.W.specialIn K (.builtin "object.__class__") "__get__" = some (some (.builtin "getset_descriptor.__get__")))
    (ct : PySem.W.takesIn K (.builtin "object.__class__") = some true)
    (caCI : PySem.W.findIn K (.ref CI) "__class__" = some (some (.builtin "object.__class__")))
    (cmCI : PySem.W.mroIn K CI (.type "object") = some true)
    (snCI : PySem.W.subIn K (.type "NoneType") (.ref CI) = some false)
    (suCICI : PySem.W.subIn K (.ref CI) (.ref CI) = some true)
    (suCICM : PySem.W.subIn K (.ref CI) (.ref CM) = some false)
    (caCM : PySem.W.findIn K (.ref CM) "__class__" = some (some (.builtin "object.__class__")))
    (cmCM : PySem.W.mroIn K CM (.type "object") = some true)
    (snCM : PySem.W.subIn K (.type "NoneType") (.ref CM) = some false)
    (suCMCI : PySem.W.subIn K (.ref CM) (.ref CI) = some false)
    (suCMCM : PySem.W.subIn K (.ref CM) (.ref CM) = some true)
    (rdCS : PySem.W.readsIn K CS (.type "type") = true)
    (gtCS : PySem.W.specialIn K (.ref CS) "__getattribute__" = some (some (.builtin "type.__getattribute__")))
    (fcqS : PySem.W.findCls K (.ref CS) (.type "type") "__init__" = some (.val (.ref fSI)))
    (rdCD : PySem.W.readsIn K CD (.type "type") = true)
    (gtCD : PySem.W.specialIn K (.ref CD) "__getattribute__" = some (some (.builtin "type.__getattribute__")))
    (fcqD : PySem.W.findCls K (.ref CD) (.type "type") "__init__" = some (.val (.ref fDI)))
    (rdCP : PySem.W.readsIn K CP (.type "type") = true)
    (gtCP : PySem.W.specialIn K (.ref CP) "__getattribute__" = some (some (.builtin "type.__getattribute__")))
    (fcqP : PySem.W.findCls K (.ref CP) (.type "type") "__init__" = some (.val (.ref fPI)))
    (nkCT : PySem.W.findIn K (.ref CT) "_kinds" = some none)
    (nsCT : PySem.W.findIn K (.ref CT) "_singles" = some none)
    (nmCT : PySem.W.findIn K (.ref CT) "_manys" = some none)
    (noCT : PySem.W.findIn K (.ref CT) "_order" = some none)
    (inCT : PySem.W.findIn K (.ref CT) "__init__" = some (some (.ref fTI)))
    (m_CT_Ts : PySem.W.findIn K (.ref CT) "singles" = some (some (.ref fTs)))
    (m_CT_Tu : PySem.W.findIn K (.ref CT) "opened" = some (some (.ref fTu)))
    (m_CT_Tp : PySem.W.findIn K (.ref CT) "spots" = some (some (.ref fTp)))
    (m_CT_Tx : PySem.W.findIn K (.ref CT) "unmet" = some (some (.ref fTx)))
    (m_CT_Tn : PySem.W.findIn K (.ref CT) "needs_at" = some (some (.ref fTn)))
    (m_CT_Tg : PySem.W.findIn K (.ref CT) "gives_at" = some (some (.ref fTg)))
    (m_CT_Tq : PySem.W.findIn K (.ref CT) "present" = some (some (.ref fTq)))
    (m_CT_Tc : PySem.W.findIn K (.ref CT) "check_names" = some (some (.ref fTc)))
    (m_CT_Ta : PySem.W.findIn K (.ref CT) "all_standings" = some (some (.ref fTa)))
    (m_CT_To : PySem.W.findIn K (.ref CT) "single_standings" = some (some (.ref fTo)))
    (m_CT_Tm : PySem.W.findIn K (.ref CT) "many_standings" = some (some (.ref fTm)))
    (lTf : K.lookup fTf = some ⟨ocTf, odTf, .func (PySem.W.fnOf "offered" "Site.offered" (defArgs sSiteOffered) (defBody sSiteOffered) (defScope sSiteOffered) .none kVTf dcTf pmTf anTf cdTf ctTf), slTf⟩)
    (cTf : PySem.W.codeIn K cdTf "Site.offered" = true)
    (kTf : PySem.W.keepIn K (.ref fTf) = true)
    (iTf : PySem.W.isFn K (.ref fTf) = true)
    (m_CT_Tf : PySem.W.findIn K (.ref CT) "offered" = some (some (.ref fTf)))
    (caCT : PySem.W.findIn K (.ref CT) "__class__" = some (some (.builtin "object.__class__")))
    (cmCT : PySem.W.mroIn K CT (.type "object") = some true)
    (icCT : PySem.W.isClsIn K CT = true)
    (tyCT : PySem.W.typeIn K (.ref CT) = some (.type "type"))
    (suCT : PySem.W.subIn K (.ref CT) (.ref CT) = some true)
    (lHI : K.lookup fHI = some ⟨ocHI, odHI, .func (PySem.W.fnOf "__init__" "Hold.__init__" (defArgs sHoldInit) (defBody sHoldInit) (defScope sHoldInit) (.ref TDHI) kVHI dcHI pmHI anHI cdHI ctHI), slHI⟩)
    (cHI : PySem.W.codeIn K cdHI "Hold.__init__" = true)
    (kHI : PySem.W.keepIn K (.ref fHI) = true)
    (iHI : PySem.W.isFn K (.ref fHI) = true)
    (lTHI : K.lookup TDHI = some oTHI)
    (dTHI : oTHI.data = .seq [Value.ref edHI].toArray nTHI)
    (lEHI : K.lookup edHI = some oEHI)
    (cEHI : oEHI.cls = .type "tuple")
    (dEHI : oEHI.data = .seq #[] nEHI)
    (lHt : K.lookup fHt = some ⟨ocHt, odHt, .func (PySem.W.fnOf "__iter__" "Hold.__iter__" (defArgs sHoldIter) (defBody sHoldIter) (defScope sHoldIter) .none kVHt dcHt pmHt anHt cdHt ctHt), slHt⟩)
    (cHt : PySem.W.codeIn K cdHt "Hold.__iter__" = true)
    (kHt : PySem.W.keepIn K (.ref fHt) = true)
    (iHt : PySem.W.isFn K (.ref fHt) = true)
    (o_Ht : PySem.W.findIn K (.ref CH) "__iter__" = some (some (.ref fHt)))
    (lHl : K.lookup fHl = some ⟨ocHl, odHl, .func (PySem.W.fnOf "__len__" "Hold.__len__" (defArgs sHoldLen) (defBody sHoldLen) (defScope sHoldLen) .none kVHl dcHl pmHl anHl cdHl ctHl), slHl⟩)
    (cHl : PySem.W.codeIn K cdHl "Hold.__len__" = true)
    (kHl : PySem.W.keepIn K (.ref fHl) = true)
    (iHl : PySem.W.isFn K (.ref fHl) = true)
    (o_Hl : PySem.W.findIn K (.ref CH) "__len__" = some (some (.ref fHl)))
    (lHk : K.lookup fHk = some ⟨ocHk, odHk, .func (PySem.W.fnOf "__contains__" "Hold.__contains__" (defArgs sHoldIn) (defBody sHoldIn) (defScope sHoldIn) .none kVHk dcHk pmHk anHk cdHk ctHk), slHk⟩)
    (cHk : PySem.W.codeIn K cdHk "Hold.__contains__" = true)
    (kHk : PySem.W.keepIn K (.ref fHk) = true)
    (iHk : PySem.W.isFn K (.ref fHk) = true)
    (o_Hk : PySem.W.findIn K (.ref CH) "__contains__" = some (some (.ref fHk)))
    (nSp : PySem.W.findIn K (.ref CH) "_spots" = some none)
    (inCH : PySem.W.findIn K (.ref CH) "__init__" = some (some (.ref fHI)))
    (caCH : PySem.W.findIn K (.ref CH) "__class__" = some (some (.builtin "object.__class__")))
    (cmCH : PySem.W.mroIn K CH (.type "object") = some true)
    (icCH : PySem.W.isClsIn K CH = true)
    (tyCH : PySem.W.typeIn K (.ref CH) = some (.type "type"))
    (suCH : PySem.W.subIn K (.ref CH) (.ref CH) = some true)
    (suL : PySem.W.subIn K (.type "list") (.ref CH) = some false)
    (sfCH : PySem.W.selfFirst K CH = true)
    (ldis : K.lookup fdis = some ⟨ocdis, oddis, .func (PySem.W.fnOf "distinct" "distinct" (defArgs sDistinct) (defBody sDistinct) (defScope sDistinct) .none kVdis dcdis pmdis andis cddis ctdis), sldis⟩)
    (cdis : PySem.W.codeIn K cddis "distinct" = true)
    (kdis : PySem.W.keepIn K (.ref fdis) = true)
    (adis : PySem.W.nsIn K mainGlobals "distinct" = some (some (.ref fdis)))
    (lsof : K.lookup fsof = some ⟨ocsof, odsof, .func (PySem.W.fnOf "standings_of" "standings_of" (defArgs sStandingsOf) (defBody sStandingsOf) (defScope sStandingsOf) .none kVsof dcsof pmsof ansof cdsof ctsof), slsof⟩)
    (csof : PySem.W.codeIn K cdsof "standings_of" = true)
    (ksof : PySem.W.keepIn K (.ref fsof) = true)
    (asof : PySem.W.nsIn K mainGlobals "standings_of" = some (some (.ref fsof)))
    (lpool : K.lookup fpool = some ⟨ocpool, odpool, .func (PySem.W.fnOf "_law_pool" "_law_pool" (defArgs sPool) (defBody sPool) (defScope sPool) .none kVpool dcpool pmpool anpool cdpool ctpool), slpool⟩)
    (cpool : PySem.W.codeIn K cdpool "_law_pool" = true)
    (kpool : PySem.W.keepIn K (.ref fpool) = true)
    (apool : PySem.W.nsIn K mainGlobals "_law_pool" = some (some (.ref fpool)))
    (ltake : K.lookup ftake = some ⟨octake, odtake, .func (PySem.W.fnOf "_law_take" "_law_take" (defArgs sTake) (defBody sTake) (defScope sTake) .none kVtake dctake pmtake antake cdtake cttake), sltake⟩)
    (ctake : PySem.W.codeIn K cdtake "_law_take" = true)
    (ktake : PySem.W.keepIn K (.ref ftake) = true)
    (atake : PySem.W.nsIn K mainGlobals "_law_take" = some (some (.ref ftake)))
    (lbase : K.lookup fbase = some ⟨ocbase, odbase, .func (PySem.W.fnOf "_law_base" "_law_base" (defArgs sBase) (defBody sBase) (defScope sBase) .none kVbase dcbase pmbase anbase cdbase ctbase), slbase⟩)
    (cbase : PySem.W.codeIn K cdbase "_law_base" = true)
    (kbase : PySem.W.keepIn K (.ref fbase) = true)
    (abase : PySem.W.nsIn K mainGlobals "_law_base" = some (some (.ref fbase)))
    (lname : K.lookup fname = some ⟨ocname, odname, .func (PySem.W.fnOf "_law_name" "_law_name" (defArgs sName) (defBody sName) (defScope sName) .none kVname dcname pmname anname cdname ctname), slname⟩)
    (cname : PySem.W.codeIn K cdname "_law_name" = true)
    (kname : PySem.W.keepIn K (.ref fname) = true)
    (aname : PySem.W.nsIn K mainGlobals "_law_name" = some (some (.ref fname)))
    (lsom : K.lookup fsom = some ⟨ocsom, odsom, .func (PySem.W.fnOf "_law_some" "_law_some" (defArgs sSome) (defBody sSome) (defScope sSome) .none kVsom dcsom pmsom ansom cdsom ctsom), slsom⟩)
    (csom : PySem.W.codeIn K cdsom "_law_some" = true)
    (ksom : PySem.W.keepIn K (.ref fsom) = true)
    (asom : PySem.W.nsIn K mainGlobals "_law_some" = some (some (.ref fsom)))
    (lkin : K.lookup fkin = some ⟨ockin, odkin, .func (PySem.W.fnOf "_law_kind" "_law_kind" (defArgs sKind) (defBody sKind) (defScope sKind) .none kVkin dckin pmkin ankin cdkin ctkin), slkin⟩)
    (ckin : PySem.W.codeIn K cdkin "_law_kind" = true)
    (kkin : PySem.W.keepIn K (.ref fkin) = true)
    (akin : PySem.W.nsIn K mainGlobals "_law_kind" = some (some (.ref fkin)))
    (lkns : K.lookup fkns = some ⟨ockns, odkns, .func (PySem.W.fnOf "_law_kinds" "_law_kinds" (defArgs sKinds) (defBody sKinds) (defScope sKinds) .none kVkns dckns pmkns ankns cdkns ctkns), slkns⟩)
    (ckns : PySem.W.codeIn K cdkns "_law_kinds" = true)
    (kkns : PySem.W.keepIn K (.ref fkns) = true)
    (akns : PySem.W.nsIn K mainGlobals "_law_kinds" = some (some (.ref fkns)))
    (lpar : K.lookup fpar = some ⟨ocpar, odpar, .func (PySem.W.fnOf "_law_parts" "_law_parts" (defArgs sParts) (defBody sParts) (defScope sParts) .none kVpar dcpar pmpar anpar cdpar ctpar), slpar⟩)
    (cpar : PySem.W.codeIn K cdpar "_law_parts" = true)
    (kpar : PySem.W.keepIn K (.ref fpar) = true)
    (apar : PySem.W.nsIn K mainGlobals "_law_parts" = some (some (.ref fpar)))
    (lspo : K.lookup fspo = some ⟨ocspo, odspo, .func (PySem.W.fnOf "_law_spots" "_law_spots" (defArgs sSpots) (defBody sSpots) (defScope sSpots) .none kVspo dcspo pmspo anspo cdspo ctspo), slspo⟩)
    (cspo : PySem.W.codeIn K cdspo "_law_spots" = true)
    (kspo : PySem.W.keepIn K (.ref fspo) = true)
    (aspo : PySem.W.nsIn K mainGlobals "_law_spots" = some (some (.ref fspo)))
    (lpla : K.lookup fpla = some ⟨ocpla, odpla, .func (PySem.W.fnOf "_law_places" "_law_places" (defArgs sPlaces) (defBody sPlaces) (defScope sPlaces) .none kVpla dcpla pmpla anpla cdpla ctpla), slpla⟩)
    (cpla : PySem.W.codeIn K cdpla "_law_places" = true)
    (kpla : PySem.W.keepIn K (.ref fpla) = true)
    (apla : PySem.W.nsIn K mainGlobals "_law_places" = some (some (.ref fpla)))
    (lpre : K.lookup fpre = some ⟨ocpre, odpre, .func (PySem.W.fnOf "_law_present" "_law_present" (defArgs sPresent) (defBody sPresent) (defScope sPresent) .none kVpre dcpre pmpre anpre cdpre ctpre), slpre⟩)
    (cpre : PySem.W.codeIn K cdpre "_law_present" = true)
    (kpre : PySem.W.keepIn K (.ref fpre) = true)
    (apre : PySem.W.nsIn K mainGlobals "_law_present" = some (some (.ref fpre)))
    (list : K.lookup fist = some ⟨ocist, odist, .func (PySem.W.fnOf "_law_is_tuple" "_law_is_tuple" (defArgs sIsTuple) (defBody sIsTuple) (defScope sIsTuple) .none kVist dcist pmist anist cdist ctist), slist⟩)
    (cist : PySem.W.codeIn K cdist "_law_is_tuple" = true)
    (kist : PySem.W.keepIn K (.ref fist) = true)
    (aist : PySem.W.nsIn K mainGlobals "_law_is_tuple" = some (some (.ref fist)))
    (llop : K.lookup flop = some ⟨oclop, odlop, .func (PySem.W.fnOf "_law_opened" "_law_opened" (defArgs sOpened) (defBody sOpened) (defScope sOpened) .none kVlop dclop pmlop anlop cdlop ctlop), sllop⟩)
    (clop : PySem.W.codeIn K cdlop "_law_opened" = true)
    (klop : PySem.W.keepIn K (.ref flop) = true)
    (alop : PySem.W.nsIn K mainGlobals "_law_opened" = some (some (.ref flop)))
    (llun : K.lookup flun = some ⟨oclun, odlun, .func (PySem.W.fnOf "_law_unmet" "_law_unmet" (defArgs sUnmet) (defBody sUnmet) (defScope sUnmet) .none kVlun dclun pmlun anlun cdlun ctlun), sllun⟩)
    (clun : PySem.W.codeIn K cdlun "_law_unmet" = true)
    (klun : PySem.W.keepIn K (.ref flun) = true)
    (alun : PySem.W.nsIn K mainGlobals "_law_unmet" = some (some (.ref flun)))
    (llof : K.lookup flof = some ⟨oclof, odlof, .func (PySem.W.fnOf "_law_offered" "_law_offered" (defArgs sOffered) (defBody sOffered) (defScope sOffered) .none kVlof dclof pmlof anlof cdlof ctlof), sllof⟩)
    (clof : PySem.W.codeIn K cdlof "_law_offered" = true)
    (klof : PySem.W.keepIn K (.ref flof) = true)
    (alof : PySem.W.nsIn K mainGlobals "_law_offered" = some (some (.ref flof)))
    (ltkn : K.lookup ftkn = some ⟨octkn, odtkn, .func (PySem.W.fnOf "_law_taken" "_law_taken" (defArgs sTaken) (defBody sTaken) (defScope sTaken) .none kVtkn dctkn pmtkn antkn cdtkn cttkn), sltkn⟩)
    (ctkn : PySem.W.codeIn K cdtkn "_law_taken" = true)
    (ktkn : PySem.W.keepIn K (.ref ftkn) = true)
    (atkn : PySem.W.nsIn K mainGlobals "_law_taken" = some (some (.ref ftkn)))
    (loff : K.lookup foff = some ⟨ocoff, odoff, .func (PySem.W.fnOf "_law_offer" "_law_offer" (defArgs sOffer) (defBody sOffer) (defScope sOffer) .none kVoff dcoff pmoff anoff cdoff ctoff), sloff⟩)
    (coff : PySem.W.codeIn K cdoff "_law_offer" = true)
    (koff : PySem.W.keepIn K (.ref foff) = true)
    (aoff : PySem.W.nsIn K mainGlobals "_law_offer" = some (some (.ref foff)))
    (lagr : K.lookup fagr = some ⟨ocagr, odagr, .func (PySem.W.fnOf "_law_agrees" "_law_agrees" (defArgs sAgrees) (defBody sAgrees) (defScope sAgrees) .none kVagr dcagr pmagr anagr cdagr ctagr), slagr⟩)
    (cagr : PySem.W.codeIn K cdagr "_law_agrees" = true)
    (kagr : PySem.W.keepIn K (.ref fagr) = true)
    (aagr : PySem.W.nsIn K mainGlobals "_law_agrees" = some (some (.ref fagr)))
    (llaw : K.lookup flaw = some ⟨oclaw, odlaw, .func (PySem.W.fnOf "law" "law" (defArgs sLaw) (defBody sLaw) (defScope sLaw) .none kVlaw dclaw pmlaw anlaw cdlaw ctlaw), sllaw⟩)
    (claw : PySem.W.codeIn K cdlaw "law" = true)
    (klaw : PySem.W.keepIn K (.ref flaw) = true)
    (alaw : PySem.W.nsIn K mainGlobals "law" = some (some (.ref flaw))) :
    ∃ fd : FuncData, (∀ (s : Shared) (v : Value), BindsTo s fd ⟨[v], []⟩ [("_law_script", v)]) ∧ ∀ base : Heap, K.In base → base.Ns mainGlobals mg → FnOk P w K mg base CX0 12 fa fd ["_law_script"] (spLaw K) := by
  have e := hfa.symm.trans (PySem.W.mg_of X G alaw)
  cases e
  have oR : OexC K ER := ⟨⟨_, _, _, _, _, _, _, _, _, _, _, _, _, _, _, xR, rvR⟩, saR, eR, tR, kCR⟩
  have FR : SupFn P K mg "__init__" "Repeated.__init__" sRepeatedInit fR ER ccR _ := ⟨⟨_, _, _, _, _, _, _, _, _, _, _, _, _, _, _, rfl, lR, cR, lcR, hvR, hfR⟩, ⟨_, _, _, ceR⟩, ⟨_, cdR⟩, (PySem.W.mg_none_of X G z9), top, any⟩
  have sR : SupC K ER ER := ⟨oR, ovR, svR, mrR⟩
  have bR : ∀ K : PySem.W.Frag, Binds K (PySem.W.fnX "__init__" "Repeated.__init__" (defArgs sRepeatedInit) (defBody sRepeatedInit) (defScope sRepeatedInit) [("__class__", ccR)] .none kVR dcR pmR anR (.ref cdaR) ctR) ["self", "name"] [] := fun _ s us _ hl => match us, hl with | [_, _], _ => .of_eq rfl
  have OR : ∀ base : Heap, ErrOk P w K mg base "Repeated" ER 1 okRepeated fsRepeated := fun base => ⟨(PySem.W.mg_of X G aR), oR, ⟨_, _, _, aiR, tiR, ok_RepeatedInit FR sR n0R, bR K⟩⟩
  have oU : OexC K EU := ⟨⟨_, _, _, _, _, _, _, _, _, _, _, _, _, _, _, xU, rvU⟩, saU, eU, tU, kCU⟩
  have FU : SupFn P K mg "__init__" "Unknown.__init__" sUnknownInit fU EU ccU _ := ⟨⟨_, _, _, _, _, _, _, _, _, _, _, _, _, _, _, rfl, lU, cU, lcU, hvU, hfU⟩, ⟨_, _, _, ceU⟩, ⟨_, cdU⟩, (PySem.W.mg_none_of X G z9), top, any⟩
  have sU : SupC K EU EU := ⟨oU, ovU, svU, mrU⟩
  have bU : ∀ K : PySem.W.Frag, Binds K (PySem.W.fnX "__init__" "Unknown.__init__" (defArgs sUnknownInit) (defBody sUnknownInit) (defScope sUnknownInit) [("__class__", ccU)] .none kVU dcU pmU anU (.ref cdaU) ctU) ["self", "name"] [] := fun _ s us _ hl => match us, hl with | [_, _], _ => .of_eq rfl
  have OU : ∀ base : Heap, ErrOk P w K mg base "Unknown" EU 1 okUnknown fsUnknown := fun base => ⟨(PySem.W.mg_of X G aU), oU, ⟨_, _, _, aiU, tiU, ok_UnknownInit FU sU n0U, bU K⟩⟩
  have TU : CatchC K EU := ⟨⟨gaU, ggU, eU, hCU⟩, exm_is eU iCU tU sCU⟩
  have oN : OexC K EN := ⟨⟨_, _, _, _, _, _, _, _, _, _, _, _, _, _, _, xN, rvN⟩, saN, eN, tN, kCN⟩
  have FN : SupFn P K mg "__init__" "NoStep.__init__" sNoStepInit fN EN ccN _ := ⟨⟨_, _, _, _, _, _, _, _, _, _, _, _, _, _, _, rfl, lN, cN, lcN, hvN, hfN⟩, ⟨_, _, _, ceN⟩, ⟨_, cdN⟩, (PySem.W.mg_none_of X G z9), top, any⟩
  have sN : SupC K EN EN := ⟨oN, ovN, svN, mrN⟩
  have bN : ∀ K : PySem.W.Frag, Binds K (PySem.W.fnX "__init__" "NoStep.__init__" (defArgs sNoStepInit) (defBody sNoStepInit) (defScope sNoStepInit) [("__class__", ccN)] .none kVN dcN pmN anN (.ref cdaN) ctN) ["self", "before", "after"] [] := fun _ s us _ hl => match us, hl with | [_, _, _], _ => .of_eq rfl
  have ON : ∀ base : Heap, ErrOk P w K mg base "NoStep" EN 2 okNoStep fsNoStep := fun base => ⟨(PySem.W.mg_of X G aN), oN, ⟨_, _, _, aiN, tiN, ok_NoStepInit FN sN n0N n1N, bN K⟩⟩
  have clCS : Cls K CS := ⟨pgCS, hdCS, poCS, saCS⟩
  have gCS : mg "Steps" = some (.ref CS) := (PySem.W.mg_of X G aCS)
  have clCD : Cls K CD := ⟨pgCD, hdCD, poCD, saCD⟩
  have gCD : mg "Doors" = some (.ref CD) := (PySem.W.mg_of X G aCD)
  have clCP : Cls K CP := ⟨pgCP, hdCP, poCP, saCP⟩
  have gCP : mg "Part" = some (.ref CP) := (PySem.W.mg_of X G aCP)
  have clCI : Cls K CI := ⟨pgCI, hdCI, poCI, saCI⟩
  have gCI : mg "Single" = some (.ref CI) := (PySem.W.mg_of X G aCI)
  have clCM : Cls K CM := ⟨pgCM, hdCM, poCM, saCM⟩
  have gCM : mg "Many" = some (.ref CM) := (PySem.W.mg_of X G aCM)
  have clCT : Cls K CT := ⟨pgCT, hdCT, poCT, saCT⟩
  have gCT : mg "Site" = some (.ref CT) := (PySem.W.mg_of X G aCT)
  have clCH : Cls K CH := ⟨pgCH, hdCH, poCH, saCH⟩
  have gCH : mg "Hold" = some (.ref CH) := (PySem.W.mg_of X G aCH)
  have FSI := fun_mk (st := sStepsInit) lSI cSI kSI
  have bSI := FSI.binds (ps := ["self", "standings"]) fun _ _ _ _ _ _ us hl => match us, hl with | [_, _], _ => rfl
  have FSt := fun_mk (st := sStepsStandings) lSt cSt kSt
  have bSt := FSt.binds (ps := ["self"]) fun _ _ _ _ _ _ us hl => match us, hl with | [_], _ => rfl
  have FAl := fun_mk (st := sStepsAllow) lAl cAl kAl
  have bAl := FAl.binds (ps := ["self", "before", "after"]) fun _ _ _ _ _ _ us hl => match us, hl with | [_, _, _], _ => rfl
  have FFr := fun_mk (st := sStepsStepsFrom) lFr cFr kFr
  have bFr := FFr.binds (ps := ["self", "standing"]) fun _ _ _ _ _ _ us hl => match us, hl with | [_, _], _ => rfl
  have FDI := fun_mk (st := sDoorsInit) lDI cDI kDI
  have bDI := FDI.binds (ps := ["self", "standings"]) fun _ _ _ _ _ _ us hl => match us, hl with | [_, _], _ => rfl
  have FDt := fun_mk (st := sDoorsIter) lDt cDt kDt
  have bDt := FDt.binds (ps := ["self"]) fun _ _ _ _ _ _ us hl => match us, hl with | [_], _ => rfl
  have FDg := fun_mk (st := sDoorsGet) lDg cDg kDg
  have bDg := FDg.binds (ps := ["self", "at"]) fun _ _ _ _ _ _ us hl => match us, hl with | [_, _], _ => rfl
  have FDp := fun_mk (st := sDoorsPut) lDp cDp kDp
  have bDp := FDp.binds (ps := ["self", "at", "worth"]) fun _ _ _ _ _ _ us hl => match us, hl with | [_, _, _], _ => rfl
  have FDn := fun_mk (st := sDoorsNeeds) lDn cDn kDn
  have bDn := FDn.binds (ps := ["self", "standing"]) fun _ _ _ _ _ _ us hl => match us, hl with | [_, _], _ => rfl
  have FDv := fun_mk (st := sDoorsGives) lDv cDv kDv
  have bDv := FDv.binds (ps := ["self", "standing"]) fun _ _ _ _ _ _ us hl => match us, hl with | [_, _], _ => rfl
  have FPI := fun_mk (st := sPartInit) lPI cPI kPI
  have bPI := FPI.binds (ps := ["self", "name", "standings"]) fun _ _ _ _ _ _ us hl => match us, hl with | [_, _, _], _ => rfl
  have FFo := fun_mk (st := sPartFollow) lFo cFo kFo
  have bFo := FFo.binds (ps := ["self", "other"]) fun _ _ _ _ _ _ us hl => match us, hl with | [_, _], _ => rfl
  have FII := fun_mk (st := sSingleInit) lII cII kII
  have bII := FII.binds (ps := ["self", "name", "standings"]) fun _ _ _ _ _ _ us hl => match us, hl with | [_, _, _], _ => rfl
  have FWI := fun_mk (st := sSingleTwin) lWI cWI kWI
  have bWI := FWI.binds (ps := ["self"]) fun _ _ _ _ _ _ us hl => match us, hl with | [_], _ => rfl
  have FMI := fun_mk (st := sManyInit) lMI cMI kMI
  have bMI := FMI.binds (ps := ["self", "name", "standings"]) fun _ _ _ _ _ _ us hl => match us, hl with | [_, _, _], _ => rfl
  have FWM := fun_mk (st := sManyTwin) lWM cWM kWM
  have bWM := FWM.binds (ps := ["self"]) fun _ _ _ _ _ _ us hl => match us, hl with | [_], _ => rfl
  have FTI := fun_mk (st := sSiteInit) lTI cTI kTI
  have bTI := FTI.binds (ps := ["self", "kinds"]) fun _ _ _ _ _ _ us hl => match us, hl with | [_, _], _ => rfl
  have FTs := fun_mk (st := sSiteSingles) lTs cTs kTs
  have bTs := FTs.binds (ps := ["self"]) fun _ _ _ _ _ _ us hl => match us, hl with | [_], _ => rfl
  have FTu := fun_mk (st := sSiteOpened) lTu cTu kTu
  have bTu := FTu.binds (ps := ["self", "places", "hold"]) fun _ _ _ _ _ _ us hl => match us, hl with | [_, _, _], _ => rfl
  have FTp := fun_mk (st := sSiteSpots) lTp cTp kTp
  have bTp := FTp.binds (ps := ["self"]) fun _ _ _ _ _ _ us hl => match us, hl with | [_], _ => rfl
  have FTx := fun_mk (st := sSiteUnmet) lTx cTx kTx
  have bTx := FTx.binds (ps := ["self", "places", "hold"]) fun _ _ _ _ _ _ us hl => match us, hl with | [_, _, _], _ => rfl
  have FTn := fun_mk (st := sSiteNeedsAt) lTn cTn kTn
  have bTn := FTn.binds (ps := ["self", "kind", "standing"]) fun _ _ _ _ _ _ us hl => match us, hl with | [_, _, _], _ => rfl
  have FTg := fun_mk (st := sSiteGivesAt) lTg cTg kTg
  have bTg := FTg.binds (ps := ["self", "kind", "standing"]) fun _ _ _ _ _ _ us hl => match us, hl with | [_, _, _], _ => rfl
  have FTq := fun_mk (st := sSitePresent) lTq cTq kTq
  have bTq := FTq.binds (ps := ["self", "places", "hold"]) fun _ _ _ _ _ _ us hl => match us, hl with | [_, _, _], _ => rfl
  have FTc := fun_mk (st := sSiteCheckNames) lTc cTc kTc
  have bTc := FTc.binds (ps := ["self", "places", "hold"]) fun _ _ _ _ _ _ us hl => match us, hl with | [_, _, _], _ => rfl
  have FTa := fun_mk (st := sSiteAllStandings) lTa cTa kTa
  have bTa := FTa.binds (ps := ["self"]) fun _ _ _ _ _ _ us hl => match us, hl with | [_], _ => rfl
  have FTo := fun_mk (st := sSiteSingleStandings) lTo cTo kTo
  have bTo := FTo.binds (ps := ["self", "name"]) fun _ _ _ _ _ _ us hl => match us, hl with | [_, _], _ => rfl
  have FTm := fun_mk (st := sSiteManyStandings) lTm cTm kTm
  have bTm := FTm.binds (ps := ["self", "name"]) fun _ _ _ _ _ _ us hl => match us, hl with | [_, _], _ => rfl
  have kkCP : KindC K CP fAl fSt fFr := ⟨clCP, nsCP, ⟨m_CP_Al, iAl, kAl⟩, ⟨m_CP_St, iSt, kSt⟩, ⟨m_CP_Fr, iFr, kFr⟩⟩
  have ddCP : DoorC K CP fDn fDv fDg fDp fDt := ⟨clCP, ndCP, ⟨m_CP_Dn, iDn, kDn⟩, ⟨m_CP_Dv, iDv, kDv⟩, ⟨g_CP, iDg, figDg, nqCP⟩, ⟨p_CP, iDp, figDp, nqCP⟩, t_CP, iDt⟩
  have ppCP : PartC K CP := ⟨clCP, nsCP, ndCP, nnCP⟩
  have mmCP : Mk K CP fPI := ⟨mkCP, inCP, iPI, kcCP⟩
  have kkCI : KindC K CI fAl fSt fFr := ⟨clCI, nsCI, ⟨m_CI_Al, iAl, kAl⟩, ⟨m_CI_St, iSt, kSt⟩, ⟨m_CI_Fr, iFr, kFr⟩⟩
  have ddCI : DoorC K CI fDn fDv fDg fDp fDt := ⟨clCI, ndCI, ⟨m_CI_Dn, iDn, kDn⟩, ⟨m_CI_Dv, iDv, kDv⟩, ⟨g_CI, iDg, figDg, nqCI⟩, ⟨p_CI, iDp, figDp, nqCI⟩, t_CI, iDt⟩
  have ppCI : PartC K CI := ⟨clCI, nsCI, ndCI, nnCI⟩
  have mmCI : Mk K CI fII := ⟨mkCI, inCI, iII, kcCI⟩
  have kkCM : KindC K CM fAl fSt fFr := ⟨clCM, nsCM, ⟨m_CM_Al, iAl, kAl⟩, ⟨m_CM_St, iSt, kSt⟩, ⟨m_CM_Fr, iFr, kFr⟩⟩
  have ddCM : DoorC K CM fDn fDv fDg fDp fDt := ⟨clCM, ndCM, ⟨m_CM_Dn, iDn, kDn⟩, ⟨m_CM_Dv, iDv, kDv⟩, ⟨g_CM, iDg, figDg, nqCM⟩, ⟨p_CM, iDp, figDp, nqCM⟩, t_CM, iDt⟩
  have ppCM : PartC K CM := ⟨clCM, nsCM, ndCM, nnCM⟩
  have mmCM : Mk K CM fMI := ⟨mkCM, inCM, iMI, kcCM⟩
  have mrCI : Meth K CI "row" fRI := ⟨m_CI_RI, iRI, kRI⟩
  have pkCI : PartK K CI fAl fSt fFr fDn fDv fDg fDp fDt fRI fFo := ⟨ppCI, kkCI, ddCI, mrCI, ⟨m_CI_Fo, iFo, kFo⟩⟩
  have mwCI : Meth K CI "twin" fWI := ⟨m_CI_WI, iWI, kWI⟩
  have mrCM : Meth K CM "row" fRM := ⟨m_CM_RM, iRM, kRM⟩
  have pkCM : PartK K CM fAl fSt fFr fDn fDv fDg fDp fDt fRM fFo := ⟨ppCM, kkCM, ddCM, mrCM, ⟨m_CM_Fo, iFo, kFo⟩⟩
  have mwCM : Meth K CM "twin" fWM := ⟨m_CM_WM, iWM, kWM⟩
  have kiCICI : PySem.W.kitOne K (.ref CI) (.ref CI) = some true := kit_is icCI tyCI suCICI (fun _ => rfl)
  have kiCICM : PySem.W.kitOne K (.ref CI) (.ref CM) = some false := kit_is icCM tyCM suCICM (fun q => by have z := suCICM; subst q; exact Option.some.inj (z.symm.trans suCMCM))
  have kiCMCI : PySem.W.kitOne K (.ref CM) (.ref CI) = some false := kit_is icCI tyCI suCMCI (fun q => by have z := suCMCI; subst q; exact Option.some.inj (z.symm.trans suCICI))
  have kiCMCM : PySem.W.kitOne K (.ref CM) (.ref CM) = some true := kit_is icCM tyCM suCMCM (fun _ => rfl)
  have qS : ClsFn K mg "Steps" CS "__init__" fSI := ⟨gCS, _, ⟨rdCS, gtCS⟩, fcqS⟩
  have qD : ClsFn K mg "Doors" CD "__init__" fDI := ⟨gCD, _, ⟨rdCD, gtCD⟩, fcqD⟩
  have qP : ClsFn K mg "Part" CP "__init__" fPI := ⟨gCP, _, ⟨rdCP, gtCP⟩, fcqP⟩
  have sc : SCls K CT := ⟨clCT, nkCT, nsCT, nmCT, noCT⟩
  have mmCT : Mk K CT fTI := ⟨mkCT, inCT, iTI, kcCT⟩
  have mTs : Meth K CT "singles" fTs := ⟨m_CT_Ts, iTs, kTs⟩
  have mTu : Meth K CT "opened" fTu := ⟨m_CT_Tu, iTu, kTu⟩
  have mTp : Meth K CT "spots" fTp := ⟨m_CT_Tp, iTp, kTp⟩
  have mTx : Meth K CT "unmet" fTx := ⟨m_CT_Tx, iTx, kTx⟩
  have mTn : Meth K CT "needs_at" fTn := ⟨m_CT_Tn, iTn, kTn⟩
  have mTg : Meth K CT "gives_at" fTg := ⟨m_CT_Tg, iTg, kTg⟩
  have mTq : Meth K CT "present" fTq := ⟨m_CT_Tq, iTq, kTq⟩
  have mTc : Meth K CT "check_names" fTc := ⟨m_CT_Tc, iTc, kTc⟩
  have mTa : Meth K CT "all_standings" fTa := ⟨m_CT_Ta, iTa, kTa⟩
  have mTo : Meth K CT "single_standings" fTo := ⟨m_CT_To, iTo, kTo⟩
  have mTm : Meth K CT "many_standings" fTm := ⟨m_CT_Tm, iTm, kTm⟩
  have FTf := fun_mk (st := sSiteOffered) lTf cTf kTf
  have mTf : Meth K CT "offered" fTf := ⟨m_CT_Tf, iTf, kTf⟩
  have FHI : FunD K "__init__" "Hold.__init__" (defArgs sHoldInit) (defBody sHoldInit) (defScope sHoldInit) [V.ref edHI] [] fHI _ := ⟨⟨_, _, _, _, _, _, _, _, _, _, rfl, lHI, cHI, .inr ⟨List.cons_ne_nil _ _, _, _, _, _, rfl, lTHI, dTHI, .cons rfl .nil⟩, .inl rfl⟩, kHI⟩
  obtain ⟨dsHI, vsHI, bHI⟩ := FHI.binds1 (ps := ["self", "rows"]) 2 1 (List.cons_ne_nil _ _) rfl (fun _ _ _ _ _ _ _ us its h1 h2 => match us, its, h1, h2 with | [_, _], [_], _, _ => ⟨_, rfl, rfl⟩)
  cases vsHI
  obtain ⟨esHI, wsHI, qHI⟩ := FHI.binds1 (ps := ["self", "rows"]) 1 0 (List.cons_ne_nil _ _) rfl (fun _ _ _ _ _ _ _ us its h1 h2 => match us, its, h1, h2 with | [_], [_], _, _ => ⟨_, rfl, rfl⟩)
  obtain ⟨eeHI, rfl, reHI⟩ := vals1 wsHI
  have hEHI : ∀ H, SqT K H edHI [] := fun H => .inr ⟨_, #[], _, lEHI, cEHI, dEHI, Nat.zero_le _, .nil⟩
  have FHt := fun_mk (st := sHoldIter) lHt cHt kHt
  have bHt := FHt.binds (ps := ["self"]) fun _ _ _ _ _ _ us hl => match us, hl with | [_], _ => rfl
  have FHl := fun_mk (st := sHoldLen) lHl cHl kHl
  have bHl := FHl.binds (ps := ["self"]) fun _ _ _ _ _ _ us hl => match us, hl with | [_], _ => rfl
  have FHk := fun_mk (st := sHoldIn) lHk cHk kHk
  have bHk := FHk.binds (ps := ["self", "x"]) fun _ _ _ _ _ _ us hl => match us, hl with | [_, _], _ => rfl
  have mmCH : Mk K CH fHI := ⟨mkCH, inCH, iHI, kcCH⟩
  have Fdis := fun_mk (st := sDistinct) ldis cdis kdis
  have bdis := Fdis.binds (ps := ["names"]) fun _ _ _ _ _ _ us hl => match us, hl with | [_], _ => rfl
  have Qdis : Fn K mg "distinct" sDistinct ["names"] fdis _ := ⟨Fdis, (PySem.W.mg_of X G adis), bdis⟩
  have Fsof := fun_mk (st := sStandingsOf) lsof csof ksof
  have bsof := Fsof.binds (ps := ["kinds"]) fun _ _ _ _ _ _ us hl => match us, hl with | [_], _ => rfl
  have Qsof : Fn K mg "standings_of" sStandingsOf ["kinds"] fsof _ := ⟨Fsof, (PySem.W.mg_of X G asof), bsof⟩
  have Fpool := fun_mk (st := sPool) lpool cpool kpool
  have bpool := Fpool.binds (ps := ["_law_script"]) fun _ _ _ _ _ _ us hl => match us, hl with | [_], _ => rfl
  have Qpool : Fn K mg "_law_pool" sPool ["_law_script"] fpool _ := ⟨Fpool, (PySem.W.mg_of X G apool), bpool⟩
  have Ftake := fun_mk (st := sTake) ltake ctake ktake
  have btake := Ftake.binds (ps := ["_law_pool_here", "_law_size"]) fun _ _ _ _ _ _ us hl => match us, hl with | [_, _], _ => rfl
  have Qtake : Fn K mg "_law_take" sTake ["_law_pool_here", "_law_size"] ftake _ := ⟨Ftake, (PySem.W.mg_of X G atake), btake⟩
  have Fbase := fun_mk (st := sBase) lbase cbase kbase
  have bbase := Fbase.binds (ps := ["_law_pool_here"]) fun _ _ _ _ _ _ us hl => match us, hl with | [_], _ => rfl
  have Qbase : Fn K mg "_law_base" sBase ["_law_pool_here"] fbase _ := ⟨Fbase, (PySem.W.mg_of X G abase), bbase⟩
  have Fname := fun_mk (st := sName) lname cname kname
  have bname := Fname.binds (ps := ["_law_pool_here", "_law_base_here", "_law_k"]) fun _ _ _ _ _ _ us hl => match us, hl with | [_, _, _], _ => rfl
  have Qname : Fn K mg "_law_name" sName ["_law_pool_here", "_law_base_here", "_law_k"] fname _ := ⟨Fname, (PySem.W.mg_of X G aname), bname⟩
  have Fsom := fun_mk (st := sSome) lsom csom ksom
  have bsom := Fsom.binds (ps := ["_law_pool_here", "_law_rows", "_law_most"]) fun _ _ _ _ _ _ us hl => match us, hl with | [_, _, _], _ => rfl
  have Qsom : Fn K mg "_law_some" sSome ["_law_pool_here", "_law_rows", "_law_most"] fsom _ := ⟨Fsom, (PySem.W.mg_of X G asom), bsom⟩
  have Fkin := fun_mk (st := sKind) lkin ckin kkin
  have bkin := Fkin.binds (ps := ["_law_pool_here", "_law_base_here", "_law_k", "_law_single", "_law_size", "_law_doors"]) fun _ _ _ _ _ _ us hl => match us, hl with | [_, _, _, _, _, _], _ => rfl
  have Qkin : Fn K mg "_law_kind" sKind ["_law_pool_here", "_law_base_here", "_law_k", "_law_single", "_law_size", "_law_doors"] fkin _ := ⟨Fkin, (PySem.W.mg_of X G akin), bkin⟩
  have Fkns := fun_mk (st := sKinds) lkns ckns kkns
  have bkns := Fkns.binds (ps := ["_law_pool_here", "_law_singles", "_law_manys", "_law_room", "_law_most"]) fun _ _ _ _ _ _ us hl => match us, hl with | [_, _, _, _, _], _ => rfl
  have Qkns : Fn K mg "_law_kinds" sKinds ["_law_pool_here", "_law_singles", "_law_manys", "_law_room", "_law_most"] fkns _ := ⟨Fkns, (PySem.W.mg_of X G akns), bkns⟩
  have Fpar := fun_mk (st := sParts) lpar cpar kpar
  have bpar := Fpar.binds (ps := ["_law_kinds_here"]) fun _ _ _ _ _ _ us hl => match us, hl with | [_], _ => rfl
  have Qpar : Fn K mg "_law_parts" sParts ["_law_kinds_here"] fpar _ := ⟨Fpar, (PySem.W.mg_of X G apar), bpar⟩
  have Fspo := fun_mk (st := sSpots) lspo cspo kspo
  have bspo := Fspo.binds (ps := ["_law_kinds_here"]) fun _ _ _ _ _ _ us hl => match us, hl with | [_], _ => rfl
  have Qspo : Fn K mg "_law_spots" sSpots ["_law_kinds_here"] fspo _ := ⟨Fspo, (PySem.W.mg_of X G aspo), bspo⟩
  have Fpla := fun_mk (st := sPlaces) lpla cpla kpla
  have bpla := Fpla.binds (ps := ["_law_pool_here", "_law_kinds_here"]) fun _ _ _ _ _ _ us hl => match us, hl with | [_, _], _ => rfl
  have Qpla : Fn K mg "_law_places" sPlaces ["_law_pool_here", "_law_kinds_here"] fpla _ := ⟨Fpla, (PySem.W.mg_of X G apla), bpla⟩
  have Fpre := fun_mk (st := sPresent) lpre cpre kpre
  have bpre := Fpre.binds (ps := ["_law_kinds_here", "_law_places_here", "_law_held"]) fun _ _ _ _ _ _ us hl => match us, hl with | [_, _, _], _ => rfl
  have Qpre : Fn K mg "_law_present" sPresent ["_law_kinds_here", "_law_places_here", "_law_held"] fpre _ := ⟨Fpre, (PySem.W.mg_of X G apre), bpre⟩
  have Fist := fun_mk (st := sIsTuple) list cist kist
  have bist := Fist.binds (ps := ["_law_actual", "_law_expected"]) fun _ _ _ _ _ _ us hl => match us, hl with | [_, _], _ => rfl
  have Qist : Fn K mg "_law_is_tuple" sIsTuple ["_law_actual", "_law_expected"] fist _ := ⟨Fist, (PySem.W.mg_of X G aist), bist⟩
  have Flop := fun_mk (st := sOpened) llop clop klop
  have blop := Flop.binds (ps := ["_law_kinds_here", "_law_places_here", "_law_held"]) fun _ _ _ _ _ _ us hl => match us, hl with | [_, _, _], _ => rfl
  have Qlop : Fn K mg "_law_opened" sOpened ["_law_kinds_here", "_law_places_here", "_law_held"] flop _ := ⟨Flop, (PySem.W.mg_of X G alop), blop⟩
  have Flun := fun_mk (st := sUnmet) llun clun klun
  have blun := Flun.binds (ps := ["_law_kinds_here", "_law_places_here", "_law_held"]) fun _ _ _ _ _ _ us hl => match us, hl with | [_, _, _], _ => rfl
  have Qlun : Fn K mg "_law_unmet" sUnmet ["_law_kinds_here", "_law_places_here", "_law_held"] flun _ := ⟨Flun, (PySem.W.mg_of X G alun), blun⟩
  have Flof := fun_mk (st := sOffered) llof clof klof
  have blof := Flof.binds (ps := ["_law_kinds_here", "_law_offers"]) fun _ _ _ _ _ _ us hl => match us, hl with | [_, _], _ => rfl
  have Qlof : Fn K mg "_law_offered" sOffered ["_law_kinds_here", "_law_offers"] flof _ := ⟨Flof, (PySem.W.mg_of X G alof), blof⟩
  have Ftkn := fun_mk (st := sTaken) ltkn ctkn ktkn
  have btkn := Ftkn.binds (ps := ["_law_site", "_law_offers"]) fun _ _ _ _ _ _ us hl => match us, hl with | [_, _], _ => rfl
  have Qtkn : Fn K mg "_law_taken" sTaken ["_law_site", "_law_offers"] ftkn _ := ⟨Ftkn, (PySem.W.mg_of X G atkn), btkn⟩
  have Foff := fun_mk (st := sOffer) loff coff koff
  have boff := Foff.binds (ps := ["_law_pool_here", "_law_kinds_here", "_law_doors"]) fun _ _ _ _ _ _ us hl => match us, hl with | [_, _, _], _ => rfl
  have Qoff : Fn K mg "_law_offer" sOffer ["_law_pool_here", "_law_kinds_here", "_law_doors"] foff _ := ⟨Foff, (PySem.W.mg_of X G aoff), boff⟩
  have Fagr := fun_mk (st := sAgrees) lagr cagr kagr
  have bagr := Fagr.binds (ps := ["_law_site", "_law_kinds_here", "_law_places_here", "_law_held"]) fun _ _ _ _ _ _ us hl => match us, hl with | [_, _, _, _], _ => rfl
  have Qagr : Fn K mg "_law_agrees" sAgrees ["_law_site", "_law_kinds_here", "_law_places_here", "_law_held"] fagr _ := ⟨Fagr, (PySem.W.mg_of X G aagr), bagr⟩
  have Flaw := fun_mk (st := sLaw) llaw claw klaw
  have blaw := Flaw.binds (ps := ["_law_script"]) fun _ _ _ _ _ _ us hl => match us, hl with | [_], _ => rfl
  exact ⟨PySem.W.fnOf "law" "law" (defArgs sLaw) (defBody sLaw) (defScope sLaw) .none kVlaw dclaw pmlaw anlaw cdlaw ctlaw, fun s v => .of_eq rfl, fun base _ _ => by
    have GP := ok_partInit (P := P) (w := w) (mg := mg) (base := base) FPI (OR base) FSI bSI qS FDI bDI qD
    have GI := ok_singleInit (P := P) (w := w) (mg := mg) (base := base) FII GP kPI bPI qP
    have GMa := ok_manyInit (P := P) (w := w) (mg := mg) (base := base) FMI GP kPI bPI qP
    have GX := ok_distinct (P := P) (w := w) (mg := mg) (base := base) Fdis (PySem.W.mg_none_of X G z3)
    have Gget := ok_dGet (P := P) (w := w) (mg := mg) (base := base) FDg (OU base)
    have Gput := ok_dPut (P := P) (w := w) (mg := mg) (base := base) FDp (OU base) GX Qdis.g kdis bdis
    have Gst := ok_standings (P := P) (w := w) (mg := mg) (base := base) FSt (PySem.W.mg_none_of X G z3)
    have Gfr := ok_stepsFrom (P := P) (w := w) (mg := mg) (base := base) FFr (OU base) (PySem.W.mg_none_of X G z3)
    have Gal := ok_allow (P := P) (w := w) (mg := mg) (base := base) FAl (OU base) (ON base)
    have GfI := ok_follow (P := P) (w := w) (mg := mg) (base := base) (fA := fAl) (fS := fSt) (fF := fFr) (fN := fDn) (fG := fDv) (fI := fDg) (fP := fDp) (fT := fDt) (fR := fRI) (fL := fFo) FFo Gst bSt Gfr bFr Gal bAl Gget bDg Gput bDp
    have GfM := ok_follow (P := P) (w := w) (mg := mg) (base := base) (fA := fAl) (fS := fSt) (fF := fFr) (fN := fDn) (fG := fDv) (fI := fDg) (fP := fDp) (fT := fDt) (fR := fRM) (fL := fFo) FFo Gst bSt Gfr bFr Gal bAl Gget bDg Gput bDp
    have GwI := ok_singleTwin (P := P) (w := w) (mg := mg) (base := base) (fA := fAl) (fS := fSt) (fF := fFr) (fN := fDn) (fG := fDv) (fI := fDg) (fP := fDp) (fT := fDt) (fR := fRI) (fL := fFo) FWI gCI mmCI GI bII Gst bSt GfI bFo
    have GwM := ok_manyTwin (P := P) (w := w) (mg := mg) (base := base) (fA := fAl) (fS := fSt) (fF := fFr) (fN := fDn) (fG := fDv) (fI := fDg) (fP := fDp) (fT := fDt) (fR := fRM) (fL := fFo) FWM gCM mmCM GMa bMI Gst bSt GfM bFo
    have kI : KCls P w K mg base (⟨fAl, fSt, fFr, fDn, fDv, fDg, fDp, fDt, fFo, CI, CM, EU, EN, ER⟩ : Kn) true := ⟨⟨fRI, fWI, _, pkCI, mwCI, GwI, bWI⟩, caCI, cn, ct, cmCI, kiCICI, kiCICM⟩
    have kM : KCls P w K mg base (⟨fAl, fSt, fFr, fDn, fDv, fDg, fDp, fDt, fFo, CI, CM, EU, EN, ER⟩ : Kn) false := ⟨⟨fRM, fWM, _, pkCM, mwCM, GwM, bWM⟩, caCM, cn, ct, cmCM, kiCMCI, kiCMCM⟩
    have kE : KEnv P w K mg base (⟨fAl, fSt, fFr, fDn, fDv, fDg, fDp, fDt, fFo, CI, CM, EU, EN, ER⟩ : Kn) := ⟨fun one => match one with | true => kI | false => kM, gCI, gCM, fun one => match one with | true => ⟨_, _, mmCI, GI, bII⟩ | false => ⟨_, _, mmCM, GMa, bMI⟩, ⟨_, Gst, bSt⟩, ⟨_, Gal, bAl⟩, ⟨_, Gfr, bFr⟩, ⟨_, Gget, bDg⟩, ⟨_, Gput, bDp⟩, kit_tyL icCI tyCI snCI, kit_tyL icCM tyCM snCM⟩
    have hc : HCls K CH := ⟨clCH, nSp⟩
    have hC : HoldC P w K mg base CH := ⟨hc, gCH, caCH, cn, ct, cmCH, kit_is icCH tyCH suCH (fun _ => rfl), kit_tyL icCH tyCH suL, sfCH, by simp [PySem.W.notFirst, suL],
      ⟨_, _, _, _, ⟨⟨o_Ht, iHt⟩, ⟨o_Hl, iHl⟩⟩, ok_hIter FHt (PySem.W.mg_none_of X G z6), bHt, ok_hLen FHl (PySem.W.mg_none_of X G z0), bHl⟩, ⟨_, _, ⟨o_Hk, iHk⟩, ok_hIn FHk, bHk⟩, ⟨_, _, _, _, mmCH, ok_hInit FHI, bHI, qHI, reHI, hEHI⟩⟩
    have Gsom := ok_some (P := P) (w := w) (mg := mg) (base := base) Fsom ⟨(PySem.W.mg_none_of X G z0), (PySem.W.mg_none_of X G z1), (PySem.W.mg_none_of X G z2)⟩ Qtake
    have Gkin := ok_kind (P := P) (w := w) (mg := mg) (base := base) Fkin ⟨(PySem.W.mg_none_of X G z0), (PySem.W.mg_none_of X G z1), (PySem.W.mg_none_of X G z2)⟩ Qtake Qname Qsom
    have Gkns := ok_kinds (P := P) (w := w) (mg := mg) (base := base) Fkns ⟨(PySem.W.mg_none_of X G z0), (PySem.W.mg_none_of X G z1), (PySem.W.mg_none_of X G z2)⟩ (PySem.W.mg_none_of X G z8) Qtake Qbase Qname Qkin Gkin
    have Gpar := ok_parts (P := P) (w := w) (mg := mg) (base := base) Fpar ⟨(PySem.W.mg_none_of X G z0), (PySem.W.mg_none_of X G z1), (PySem.W.mg_none_of X G z2)⟩ (PySem.W.mg_none_of X G z4) kE
    have GTI := ok_sInit (P := P) (w := w) (mg := mg) (base := base) FTI kE (OR base) (PySem.W.mg_none_of X G z3) (PySem.W.mg_none_of X G z5) Qsof
    have GTs := ok_singles (P := P) (w := w) (mg := mg) (base := base) FTs (n := (⟨fAl, fSt, fFr, fDn, fDv, fDg, fDp, fDt, fFo, CI, CM, EU, EN, ER⟩ : Kn)) sc (PySem.W.mg_none_of X G z3)
    have GTa := ok_allSt (P := P) (w := w) (mg := mg) (base := base) FTa (n := (⟨fAl, fSt, fFr, fDn, fDv, fDg, fDp, fDt, fFo, CI, CM, EU, EN, ER⟩ : Kn)) sc
    have GTo := ok_single (P := P) (w := w) (mg := mg) (base := base) FTo (n := (⟨fAl, fSt, fFr, fDn, fDv, fDg, fDp, fDt, fFo, CI, CM, EU, EN, ER⟩ : Kn)) sc (OU base)
    have GTm := ok_many (P := P) (w := w) (mg := mg) (base := base) FTm (n := (⟨fAl, fSt, fFr, fDn, fDv, fDg, fDp, fDt, fFo, CI, CM, EU, EN, ER⟩ : Kn)) sc (OU base)
    have GTc := ok_checkN (P := P) (w := w) (mg := mg) (base := base) FTc kE sc hC (PySem.W.mg_none_of X G z7) (OU base) mTs GTs bTs mTo GTo bTo mTm GTm bTm
    have GTq := ok_present (P := P) (w := w) (mg := mg) (base := base) FTq sc hC (PySem.W.mg_none_of X G z7) (PySem.W.mg_none_of X G z4) (PySem.W.mg_none_of X G z3) mTc GTc bTc mTs GTs bTs mTa GTa bTa
    have GDv := ok_gives (P := P) (w := w) (mg := mg) (base := base) (CU := EU) (fN := fDn) (fG := fDv) (fI := fDg) (fP := fDp) (fT := fDt) FDv Gget bDg
    have GTg := ok_givesAt (P := P) (w := w) (mg := mg) (base := base) FTg kE sc GDv bDv
    have GTu := ok_opened (P := P) (w := w) (mg := mg) (base := base) FTu sc mTq GTq bTq mTg GTg bTg Qdis GX
    have GDn := ok_needsD (P := P) (w := w) (mg := mg) (base := base) (CU := EU) (fN := fDn) (fG := fDv) (fI := fDg) (fP := fDp) (fT := fDt) FDn Gget bDg
    have GTn := ok_needsAt (P := P) (w := w) (mg := mg) (base := base) FTn kE sc GDn bDn
    have GTp := ok_spots (P := P) (w := w) (mg := mg) (base := base) FTp (n := (⟨fAl, fSt, fFr, fDn, fDv, fDg, fDp, fDt, fFo, CI, CM, EU, EN, ER⟩ : Kn)) sc hC
    have GTx := ok_unmet (P := P) (w := w) (mg := mg) (base := base) FTx sc mTu GTu bTu mTq GTq bTq mTn GTn bTn
    have si : SiteIs K CT := ⟨caCT, cn, ct, cmCT, kit_is icCT tyCT suCT (fun _ => rfl)⟩
    have GTf := ok_sOffered (P := P) (w := w) (mg := mg) (base := base) FTf (StX.bind_star1 (B := fun us => bindArgs _ ⟨us, []⟩) (fun _ => rfl) (fun _ _ _ => rfl)) kE (OU base) sc mmCT GTI bTI gCT (PySem.W.mg_none_of X G z4) (by decide +kernel)
    have Gtkn := ok_taken (P := P) (w := w) (mg := mg) (base := base) Ftkn ⟨(PySem.W.mg_none_of X G z0), (PySem.W.mg_none_of X G z1), (PySem.W.mg_none_of X G z2)⟩ sc mTf GTf (PySem.W.mg_of X G aU) TU n0U
    have Gagr := ok_agrees (P := P) (w := w) (mg := mg) (base := base) Fagr ⟨(PySem.W.mg_none_of X G z0), (PySem.W.mg_none_of X G z1), (PySem.W.mg_none_of X G z2)⟩ (PySem.W.mg_none_of X G z3) (PySem.W.mg_none_of X G z5) sc si gCT hC Qpre Qist mTs GTs bTs mTp GTp bTp mTu GTu bTu mTx GTx bTx Qspo Qlop Qlun
    exact ok_law Flaw ⟨(PySem.W.mg_none_of X G z0), (PySem.W.mg_none_of X G z1), (PySem.W.mg_none_of X G z2)⟩ (PySem.W.mg_none_of X G z3) (PySem.W.mg_none_of X G z4) Qpool Qtake Qname Qkns Gkns Qpar Gpar Qspo Qpla Qtkn Gtkn Qagr Gagr Qoff Qlof sc gCT mmCT GTI bTI⟩
theorem walk {l : PySem.W.OpenLaw} {q : Program} {loose : List Str} {XP : (Str → Option Value) → Heap → Prop} {YP : World → Heap → Prop} {d : DefRec} {K : Params → PySem.W.Frag} (hn : l.most = some 63) (hdf : d.params.defaults = [])
    (hY : ∀ (w : World) (h : Heap), YP w h → (K w.params).In h)
    (F : ∀ (w : World) (mg : Str → Option Value) (fa : Addr) (h : Heap), (K w.params).In h → h.Ns mainGlobals mg → mg d.name = some (.ref fa) →
      ∃ fd : FuncData, (∀ (s : Shared) (u : Value), BindsTo s fd ⟨[u], []⟩ [("_law_script", u)]) ∧ ∀ base : Heap, (K w.params).In base → base.Ns mainGlobals mg → FnOk l.prog w (K w.params) mg base CX0 12 fa fd ["_law_script"] (spLaw (K w.params))) :
    PySem.W.WalkO q loose XP YP l.row.toRowW d [] (fun f vs => PySem.call f vs) :=
  L2.walk_of (n := 63) (k := 12) (x := "_law_script") (CX := fun _ => CX0) (sp := fun w => spLaw (K w.params)) hn (by decide) hdf ⟨rfl, by decide, by decide⟩ hY F (fun _ _ a ns hl _ hS => ⟨a, ns, rfl, hS, hl, fun _ => rfl⟩) fun _ _ _ _ _ z => z
end Yd
--END
open PySem PySem.W PyProof.Rows
set_option maxRecDepth 100000 in
set_option maxHeartbeats 0 in
theorem PySem.Challenge.cw_soundyard_k13_offers_taken_holds : PySem.Challenge.rw_soundyard_k13_offers_taken.Holds := by
  w_on; o_law; k_head; (case hw => w_witness2)
  k_fill
  refine Yd.walk (l := PySem.Challenge.rw_soundyard_k13_offers_taken) rfl rfl (fun w h Y => PySem.W.kIn_of Y) ?F
  case F =>
    intro w mg fa h KX G hmg
    refine' Yd.all_mk KX G hmg ?z0 ?z1 ?z2 ?z3 ?z4 ?z5 ?z6 ?z7 ?z8 ?aR ?xR ?rvR ?saR ?gaR ?ggR ?n0R ?eR ?tR ?kCR ?hCR ?iCR ?sCR ?aiR ?tiR ?lR ?cR ?lcR ?hvR ?hfR ?ceR ?cdR ?ovR ?svR ?mrR ?z9 ?top ?any ?aU ?xU ?rvU ?saU ?gaU ?ggU ?n0U ?eU ?tU ?kCU ?hCU ?iCU ?sCU ?aiU ?tiU ?lU ?cU ?lcU ?hvU ?hfU ?ceU ?cdU ?ovU ?svU ?mrU ?aN ?xN ?rvN ?saN ?gaN ?ggN ?n0N ?n1N ?eN ?tN ?kCN ?hCN ?iCN ?sCN ?aiN ?tiN ?lN ?cN ?lcN ?hvN ?hfN ?ceN ?cdN ?ovN ?svN ?mrN ?aCS ?pgCS ?hdCS ?poCS ?saCS ?mkCS ?kcCS ?aCD ?pgCD ?hdCD ?poCD ?saCD ?mkCD ?kcCD ?aCP ?pgCP ?hdCP ?poCP ?saCP ?mkCP ?kcCP ?aCI ?pgCI ?hdCI ?poCI ?saCI ?mkCI ?kcCI ?aCM ?pgCM ?hdCM ?poCM ?saCM ?mkCM ?kcCM ?aCT ?pgCT ?hdCT ?poCT ?saCT ?mkCT ?kcCT ?aCH ?pgCH ?hdCH ?poCH ?saCH ?mkCH ?kcCH ?lSI ?cSI ?kSI ?iSI ?lSt ?cSt ?kSt ?iSt ?lAl ?cAl ?kAl ?iAl ?lFr ?cFr ?kFr ?iFr ?lDI ?cDI ?kDI ?iDI ?lDt ?cDt ?kDt ?iDt ?lDg ?cDg ?kDg ?iDg ?lDp ?cDp ?kDp ?iDp ?lDn ?cDn ?kDn ?iDn ?lDv ?cDv ?kDv ?iDv ?lPI ?cPI ?kPI ?iPI ?lFo ?cFo ?kFo ?iFo ?lII ?cII ?kII ?iII ?lWI ?cWI ?kWI ?iWI ?lMI ?cMI ?kMI ?iMI ?lWM ?cWM ?kWM ?iWM ?lTI ?cTI ?kTI ?iTI ?lTs ?cTs ?kTs ?iTs ?lTu ?cTu ?kTu ?iTu ?lTp ?cTp ?kTp ?iTp ?lTx ?cTx ?kTx ?iTx ?lTn ?cTn ?kTn ?iTn ?lTg ?cTg ?kTg ?iTg ?lTq ?cTq ?kTq ?iTq ?lTc ?cTc ?kTc ?iTc ?lTa ?cTa ?kTa ?iTa ?lTo ?cTo ?kTo ?iTo ?lTm ?cTm ?kTm ?iTm ?figDg ?figDp ?kRI ?iRI ?kRM ?iRM ?nsCP ?ndCP ?nnCP ?nqCP ?m_CP_Al ?m_CP_St ?m_CP_Fr ?m_CP_Dn ?m_CP_Dv ?g_CP ?p_CP ?t_CP ?inCP ?nsCI ?ndCI ?nnCI ?nqCI ?m_CI_Al ?m_CI_St ?m_CI_Fr ?m_CI_Dn ?m_CI_Dv ?g_CI ?p_CI ?t_CI ?inCI ?nsCM ?ndCM ?nnCM ?nqCM ?m_CM_Al ?m_CM_St ?m_CM_Fr ?m_CM_Dn ?m_CM_Dv ?g_CM ?p_CM ?t_CM ?inCM ?m_CI_RI ?m_CI_Fo ?m_CI_WI ?m_CM_RM ?m_CM_Fo ?m_CM_WM ?icCI ?tyCI ?icCM ?tyCM ?cn ?ct ?caCI ?cmCI ?snCI ?suCICI ?suCICM ?caCM ?cmCM ?snCM ?suCMCI ?suCMCM ?rdCS ?gtCS ?fcqS ?rdCD ?gtCD ?fcqD ?rdCP ?gtCP ?fcqP ?nkCT ?nsCT ?nmCT ?noCT ?inCT ?m_CT_Ts ?m_CT_Tu ?m_CT_Tp ?m_CT_Tx ?m_CT_Tn ?m_CT_Tg ?m_CT_Tq ?m_CT_Tc ?m_CT_Ta ?m_CT_To ?m_CT_Tm ?lTf ?cTf ?kTf ?iTf ?m_CT_Tf ?caCT ?cmCT ?icCT ?tyCT ?suCT ?lHI ?cHI ?kHI ?iHI ?lTHI ?dTHI ?lEHI ?cEHI ?dEHI ?lHt ?cHt ?kHt ?iHt ?o_Ht ?lHl ?cHl ?kHl ?iHl ?o_Hl ?lHk ?cHk ?kHk ?iHk ?o_Hk ?nSp ?inCH ?caCH ?cmCH ?icCH ?tyCH ?suCH ?suL ?sfCH ?ldis ?cdis ?kdis ?adis ?lsof ?csof ?ksof ?asof ?lpool ?cpool ?kpool ?apool ?ltake ?ctake ?ktake ?atake ?lbase ?cbase ?kbase ?abase ?lname ?cname ?kname ?aname ?lsom ?csom ?ksom ?asom ?lkin ?ckin ?kkin ?akin ?lkns ?ckns ?kkns ?akns ?lpar ?cpar ?kpar ?apar ?lspo ?cspo ?kspo ?aspo ?lpla ?cpla ?kpla ?apla ?lpre ?cpre ?kpre ?apre ?list ?cist ?kist ?aist ?llop ?clop ?klop ?alop ?llun ?clun ?klun ?alun ?llof ?clof ?klof ?alof ?ltkn ?ctkn ?ktkn ?atkn ?loff ?coff ?koff ?aoff ?lagr ?cagr ?kagr ?aagr ?llaw ?claw ?klaw ?alaw
    (case z0 => k_is)
    (case z1 => k_is)
    (case z2 => k_is)
    (case z3 => k_is)
    (case z4 => k_is)
    (case z5 => k_is)
    (case z6 => k_is)
    (case z7 => k_is)
    (case z8 => k_is)
    (case aR => k_is)
    (case z9 => k_is)
    (case aU => k_is)
    (case aN => k_is)
    (case aCS => k_is)
    (case aCD => k_is)
    (case aCP => k_is)
    (case aCI => k_is)
    (case aCM => k_is)
    (case aCT => k_is)
    (case aCH => k_is)
    (case adis => k_is)
    (case asof => k_is)
    (case apool => k_is)
    (case atake => k_is)
    (case abase => k_is)
    (case aname => k_is)
    (case asom => k_is)
    (case akin => k_is)
    (case akns => k_is)
    (case apar => k_is)
    (case aspo => k_is)
    (case apla => k_is)
    (case apre => k_is)
    (case aist => k_is)
    (case alop => k_is)
    (case alun => k_is)
    (case alof => k_is)
    (case atkn => k_is)
    (case aoff => k_is)
    (case aagr => k_is)
    (case alaw => k_is)
    (case saR => k_is)
    (case gaR => k_is)
    (case ggR => k_is)
    (case n0R => k_is)
    (case aiR => k_is)
    (case saU => k_is)
    (case gaU => k_is)
    (case ggU => k_is)
    (case n0U => k_is)
    (case aiU => k_is)
    (case saN => k_is)
    (case gaN => k_is)
    (case ggN => k_is)
    (case n0N => k_is)
    (case n1N => k_is)
    (case aiN => k_is)
    (case saCS => k_is)
    (case saCD => k_is)
    (case saCP => k_is)
    (case saCI => k_is)
    (case saCM => k_is)
    (case saCT => k_is)
    (case saCH => k_is)
    (case nsCP => k_is)
    (case ndCP => k_is)
    (case nnCP => k_is)
    (case m_CP_Al => k_is)
    (case m_CP_St => k_is)
    (case m_CP_Fr => k_is)
    (case m_CP_Dn => k_is)
    (case m_CP_Dv => k_is)
    (case g_CP => k_is)
    (case p_CP => k_is)
    (case t_CP => k_is)
    (case inCP => k_is)
    (case nsCI => k_is)
    (case ndCI => k_is)
    (case nnCI => k_is)
    (case m_CI_Al => k_is)
    (case m_CI_St => k_is)
    (case m_CI_Fr => k_is)
    (case m_CI_Dn => k_is)
    (case m_CI_Dv => k_is)
    (case g_CI => k_is)
    (case p_CI => k_is)
    (case t_CI => k_is)
    (case inCI => k_is)
    (case nsCM => k_is)
    (case ndCM => k_is)
    (case nnCM => k_is)
    (case m_CM_Al => k_is)
    (case m_CM_St => k_is)
    (case m_CM_Fr => k_is)
    (case m_CM_Dn => k_is)
    (case m_CM_Dv => k_is)
    (case g_CM => k_is)
    (case p_CM => k_is)
    (case t_CM => k_is)
    (case inCM => k_is)
    (case m_CI_RI => k_is)
    (case m_CI_Fo => k_is)
    (case m_CI_WI => k_is)
    (case m_CM_RM => k_is)
    (case m_CM_Fo => k_is)
    (case m_CM_WM => k_is)
    (case caCI => k_is)
    (case caCM => k_is)
    (case fcqS => k_is)
    (case fcqD => k_is)
    (case fcqP => k_is)
    (case nkCT => k_is)
    (case nsCT => k_is)
    (case nmCT => k_is)
    (case noCT => k_is)
    (case inCT => k_is)
    (case m_CT_Ts => k_is)
    (case m_CT_Tu => k_is)
    (case m_CT_Tp => k_is)
    (case m_CT_Tx => k_is)
    (case m_CT_Tn => k_is)
    (case m_CT_Tg => k_is)
    (case m_CT_Tq => k_is)
    (case m_CT_Tc => k_is)
    (case m_CT_Ta => k_is)
    (case m_CT_To => k_is)
    (case m_CT_Tm => k_is)
    (case m_CT_Tf => k_is)
    (case caCT => k_is)
    (case o_Ht => k_is)
    (case o_Hl => k_is)
    (case o_Hk => k_is)
    (case nSp => k_is)
    (case inCH => k_is)
    (case caCH => k_is)
    (case xR => k_is)
    (case rvR => decide +kernel)
    (case eR => k_is)
    (case tR => k_is)
    (case kCR => k_is)
    (case hCR => k_is)
    (case iCR => k_is)
    (case sCR => first | rfl | k_is)
    (case tiR => k_is)
    (case lR => k_is)
    (case cR => k_is)
    (case lcR => k_is)
    (case hvR => exact rfl)
    (case hfR => first | exact rfl | decide +kernel)
    (case ceR => k_is)
    (case cdR => k_is)
    (case ovR => first | ks_is | k_is)
    (case svR => k_is)
    (case mrR => k_is)
    (case top => first | exact rfl | decide +kernel)
    (case any => k_is)
    (case xU => k_is)
    (case rvU => decide +kernel)
    (case eU => k_is)
    (case tU => k_is)
    (case kCU => k_is)
    (case hCU => k_is)
    (case iCU => k_is)
    (case sCU => first | rfl | k_is)
    (case tiU => k_is)
    (case lU => k_is)
    (case cU => k_is)
    (case lcU => k_is)
    (case hvU => exact rfl)
    (case hfU => first | exact rfl | decide +kernel)
    (case ceU => k_is)
    (case cdU => k_is)
    (case ovU => first | ks_is | k_is)
    (case svU => k_is)
    (case mrU => k_is)
    (case xN => k_is)
    (case rvN => decide +kernel)
    (case eN => k_is)
    (case tN => k_is)
    (case kCN => k_is)
    (case hCN => k_is)
    (case iCN => k_is)
    (case sCN => first | rfl | k_is)
    (case tiN => k_is)
    (case lN => k_is)
    (case cN => k_is)
    (case lcN => k_is)
    (case hvN => exact rfl)
    (case hfN => first | exact rfl | decide +kernel)
    (case ceN => k_is)
    (case cdN => k_is)
    (case ovN => first | ks_is | k_is)
    (case svN => k_is)
    (case mrN => k_is)
    (case pgCS => k_is)
    (case hdCS => k_is)
    (case poCS => k_is)
    (case mkCS => k_is)
    (case kcCS => k_is)
    (case pgCD => k_is)
    (case hdCD => k_is)
    (case poCD => k_is)
    (case mkCD => k_is)
    (case kcCD => k_is)
    (case pgCP => k_is)
    (case hdCP => k_is)
    (case poCP => k_is)
    (case mkCP => k_is)
    (case kcCP => k_is)
    (case pgCI => k_is)
    (case hdCI => k_is)
    (case poCI => k_is)
    (case mkCI => k_is)
    (case kcCI => k_is)
    (case pgCM => k_is)
    (case hdCM => k_is)
    (case poCM => k_is)
    (case mkCM => k_is)
    (case kcCM => k_is)
    (case pgCT => k_is)
    (case hdCT => k_is)
    (case poCT => k_is)
    (case mkCT => k_is)
    (case kcCT => k_is)
    (case pgCH => k_is)
    (case hdCH => k_is)
    (case poCH => k_is)
    (case mkCH => k_is)
    (case kcCH => k_is)
    (case lSI => k_is)
    (case cSI => k_is)
    (case kSI => k_is)
    (case iSI => k_is)
    (case lSt => k_is)
    (case cSt => k_is)
    (case kSt => k_is)
    (case iSt => k_is)
    (case lAl => k_is)
    (case cAl => k_is)
    (case kAl => k_is)
    (case iAl => k_is)
    (case lFr => k_is)
    (case cFr => k_is)
    (case kFr => k_is)
    (case iFr => k_is)
    (case lDI => k_is)
    (case cDI => k_is)
    (case kDI => k_is)
    (case iDI => k_is)
    (case lDt => k_is)
    (case cDt => k_is)
    (case kDt => k_is)
    (case iDt => k_is)
    (case lDg => k_is)
    (case cDg => k_is)
    (case kDg => k_is)
    (case iDg => k_is)
    (case lDp => k_is)
    (case cDp => k_is)
    (case kDp => k_is)
    (case iDp => k_is)
    (case lDn => k_is)
    (case cDn => k_is)
    (case kDn => k_is)
    (case iDn => k_is)
    (case lDv => k_is)
    (case cDv => k_is)
    (case kDv => k_is)
    (case iDv => k_is)
    (case lPI => k_is)
    (case cPI => k_is)
    (case kPI => k_is)
    (case iPI => k_is)
    (case lFo => k_is)
    (case cFo => k_is)
    (case kFo => k_is)
    (case iFo => k_is)
    (case lII => k_is)
    (case cII => k_is)
    (case kII => k_is)
    (case iII => k_is)
    (case lWI => k_is)
    (case cWI => k_is)
    (case kWI => k_is)
    (case iWI => k_is)
    (case lMI => k_is)
    (case cMI => k_is)
    (case kMI => k_is)
    (case iMI => k_is)
    (case lWM => k_is)
    (case cWM => k_is)
    (case kWM => k_is)
    (case iWM => k_is)
    (case lTI => k_is)
    (case cTI => k_is)
    (case kTI => k_is)
    (case iTI => k_is)
    (case lTs => k_is)
    (case cTs => k_is)
    (case kTs => k_is)
    (case iTs => k_is)
    (case lTu => k_is)
    (case cTu => k_is)
    (case kTu => k_is)
    (case iTu => k_is)
    (case lTp => k_is)
    (case cTp => k_is)
    (case kTp => k_is)
    (case iTp => k_is)
    (case lTx => k_is)
    (case cTx => k_is)
    (case kTx => k_is)
    (case iTx => k_is)
    (case lTn => k_is)
    (case cTn => k_is)
    (case kTn => k_is)
    (case iTn => k_is)
    (case lTg => k_is)
    (case cTg => k_is)
    (case kTg => k_is)
    (case iTg => k_is)
    (case lTq => k_is)
    (case cTq => k_is)
    (case kTq => k_is)
    (case iTq => k_is)
    (case lTc => k_is)
    (case cTc => k_is)
    (case kTc => k_is)
    (case iTc => k_is)
    (case lTa => k_is)
    (case cTa => k_is)
    (case kTa => k_is)
    (case iTa => k_is)
    (case lTo => k_is)
    (case cTo => k_is)
    (case kTo => k_is)
    (case iTo => k_is)
    (case lTm => k_is)
    (case cTm => k_is)
    (case kTm => k_is)
    (case iTm => k_is)
    (case figDg => first | k_is | rfl)
    (case figDp => first | k_is | rfl)
    (case kRI => k_is)
    (case iRI => k_is)
    (case kRM => k_is)
    (case iRM => k_is)
    (case nqCP => first | k_is | rfl)
    (case nqCI => first | k_is | rfl)
    (case nqCM => first | k_is | rfl)
    (case icCI => k_is)
    (case tyCI => k_is)
    (case icCM => k_is)
    (case tyCM => k_is)
    (case cn => first | k_is | rfl)
    (case ct => first | k_is | rfl)
    (case cmCI => k_is)
    (case snCI => first | k_is | rfl)
    (case suCICI => first | rfl | k_is)
    (case suCICM => first | rfl | k_is)
    (case cmCM => k_is)
    (case snCM => first | k_is | rfl)
    (case suCMCI => first | rfl | k_is)
    (case suCMCM => first | rfl | k_is)
    (case rdCS => k_is)
    (case gtCS => k_is)
    (case rdCD => k_is)
    (case gtCD => k_is)
    (case rdCP => k_is)
    (case gtCP => k_is)
    (case lTf => k_is)
    (case cTf => k_is)
    (case kTf => k_is)
    (case iTf => k_is)
    (case cmCT => k_is)
    (case icCT => k_is)
    (case tyCT => k_is)
    (case suCT => first | rfl | k_is)
    (case lHI => k_is)
    (case cHI => k_is)
    (case kHI => k_is)
    (case iHI => k_is)
    (case lTHI => k_is)
    (case dTHI => exact rfl)
    (case lEHI => k_is)
    (case cEHI => exact rfl)
    (case dEHI => exact rfl)
    (case lHt => k_is)
    (case cHt => k_is)
    (case kHt => k_is)
    (case iHt => k_is)
    (case lHl => k_is)
    (case cHl => k_is)
    (case kHl => k_is)
    (case iHl => k_is)
    (case lHk => k_is)
    (case cHk => k_is)
    (case kHk => k_is)
    (case iHk => k_is)
    (case cmCH => k_is)
    (case icCH => k_is)
    (case tyCH => k_is)
    (case suCH => first | rfl | k_is)
    (case suL => first | k_is | rfl)
    (case sfCH => first | k_is | rfl)
    (case ldis => k_is)
    (case cdis => k_is)
    (case kdis => k_is)
    (case lsof => k_is)
    (case csof => k_is)
    (case ksof => k_is)
    (case lpool => k_is)
    (case cpool => k_is)
    (case kpool => k_is)
    (case ltake => k_is)
    (case ctake => k_is)
    (case ktake => k_is)
    (case lbase => k_is)
    (case cbase => k_is)
    (case kbase => k_is)
    (case lname => k_is)
    (case cname => k_is)
    (case kname => k_is)
    (case lsom => k_is)
    (case csom => k_is)
    (case ksom => k_is)
    (case lkin => k_is)
    (case ckin => k_is)
    (case kkin => k_is)
    (case lkns => k_is)
    (case ckns => k_is)
    (case kkns => k_is)
    (case lpar => k_is)
    (case cpar => k_is)
    (case kpar => k_is)
    (case lspo => k_is)
    (case cspo => k_is)
    (case kspo => k_is)
    (case lpla => k_is)
    (case cpla => k_is)
    (case kpla => k_is)
    (case lpre => k_is)
    (case cpre => k_is)
    (case kpre => k_is)
    (case list => k_is)
    (case cist => k_is)
    (case kist => k_is)
    (case llop => k_is)
    (case clop => k_is)
    (case klop => k_is)
    (case llun => k_is)
    (case clun => k_is)
    (case klun => k_is)
    (case llof => k_is)
    (case clof => k_is)
    (case klof => k_is)
    (case ltkn => k_is)
    (case ctkn => k_is)
    (case ktkn => k_is)
    (case loff => k_is)
    (case coff => k_is)
    (case koff => k_is)
    (case lagr => k_is)
    (case cagr => k_is)
    (case kagr => k_is)
    (case llaw => k_is)
    (case claw => k_is)
    (case klaw => k_is)
