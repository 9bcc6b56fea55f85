import PyProof.Rows.All
import Wide.All
import OpenK.AllK
import Wide.FinOn
import PySem.Challenge.RW_alreadytold_k01_whole_ratios
import HandS.ForExc
import HandS.Comp
import HandS.EndBits
import HandS.Wide
import HandS.Gcd
import HandS.Defaults
import HandS.IsInst
import HandS.FStr
import HandS.Style
import HandS.Flow
import PyProof.EqAt
import PyProof.EqKinds
import PyProof.TupleCall
import KE.KMathG
set_option Elab.async false
set_option linter.all false
set_option maxRecDepth 100000
set_option maxHeartbeats 4000000
namespace K01
open PySem L2
def top (i : Nat) : Stmt := PySem.Challenge.pw_alreadytold_k01_whole_ratios.main.body.getD i (.Pass ⟨0, 0, 0, 0⟩)

abbrev sis_whole : Stmt := top 7
theorem scis_whole : FnScope ["thing", "low", "high"] ["thing", "low", "high"] (defScope sis_whole) := ⟨rfl, rfl, rfl, by decide +kernel, rfl, by decide +kernel, by decide +kernel⟩

abbrev sis_ratio : Stmt := top 8
theorem scis_ratio : FnScope ["thing", "top", "bottom"] ["thing"] (defScope sis_ratio) := ⟨rfl, rfl, rfl, by decide +kernel, rfl, by decide +kernel, by decide +kernel⟩

abbrev smake_ratio : Stmt := top 9
theorem scmake_ratio : FnScope ["top", "bottom", "common"] ["top", "bottom"] (defScope smake_ratio) := ⟨rfl, rfl, rfl, by decide +kernel, rfl, by decide +kernel, by decide +kernel⟩

abbrev splus : Stmt := top 10
theorem scplus : FnScope ["one", "other", "top", "bottom", "top2", "bottom2", "common", "total", "rest"] ["one", "other"] (defScope splus) := ⟨rfl, rfl, rfl, by decide +kernel, rfl, by decide +kernel, by decide +kernel⟩

abbrev sminus : Stmt := top 11
theorem scminus : FnScope ["one", "other"] ["one", "other"] (defScope sminus) := ⟨rfl, rfl, rfl, by decide +kernel, rfl, by decide +kernel, by decide +kernel⟩

abbrev stimes : Stmt := top 12
theorem sctimes : FnScope ["one", "other", "top", "bottom", "top2", "bottom2", "left", "right"] ["one", "other"] (defScope stimes) := ⟨rfl, rfl, rfl, by decide +kernel, rfl, by decide +kernel, by decide +kernel⟩

abbrev sover : Stmt := top 13
theorem scover : FnScope ["one", "other", "top", "bottom"] ["one", "other"] (defScope sover) := ⟨rfl, rfl, rfl, by decide +kernel, rfl, by decide +kernel, by decide +kernel⟩

abbrev scompare : Stmt := top 14
theorem sccompare : FnScope ["one", "other", "left", "right"] ["one", "other"] (defScope scompare) := ⟨rfl, rfl, rfl, by decide +kernel, rfl, by decide +kernel, by decide +kernel⟩

abbrev ssum_of : Stmt := top 15
theorem scsum_of : FnScope ["ratios", "bottom", "ratio", "total"] ["ratios"] (defScope ssum_of) := ⟨rfl, rfl, rfl, by decide +kernel, rfl, by decide +kernel, by decide +kernel⟩

abbrev sratio_text : Stmt := top 16
theorem scratio_text : FnScope ["one", "top", "bottom"] ["one"] (defScope sratio_text) := ⟨rfl, rfl, rfl, by decide +kernel, rfl, by decide +kernel, by decide +kernel⟩

abbrev s_law_hand : Stmt := top 18
theorem sc_law_hand : FnScope ["_law_script", "_law_total", "_law_cells", "_law_cell"] ["_law_script"] (defScope s_law_hand) := ⟨rfl, rfl, rfl, by decide +kernel, rfl, by decide +kernel, by decide +kernel⟩

abbrev s_law_mixed : Stmt := top 19
theorem sc_law_mixed : FnScope ["_law_number", "_law_turn", "_law_once", "_law_twice"] ["_law_number", "_law_turn"] (defScope s_law_mixed) := ⟨rfl, rfl, rfl, by decide +kernel, rfl, by decide +kernel, by decide +kernel⟩

abbrev s_law_take : Stmt := top 20
theorem sc_law_take : FnScope ["_law_hand_here", "_law_many", "_law_cell", "_law_rest"] ["_law_hand_here", "_law_many"] (defScope s_law_take) := ⟨rfl, rfl, rfl, by decide +kernel, rfl, by decide +kernel, by decide +kernel⟩

abbrev s_law_part : Stmt := top 21
theorem sc_law_part : FnScope ["_law_one", "_law_other", "_law_step"] ["_law_one", "_law_other"] (defScope s_law_part) := ⟨rfl, rfl, rfl, by decide +kernel, rfl, by decide +kernel, by decide +kernel⟩

abbrev s_law_ratio : Stmt := top 22
theorem sc_law_ratio : FnScope ["_law_top", "_law_bottom", "_law_part_here"] ["_law_top", "_law_bottom"] (defScope s_law_ratio) := ⟨rfl, rfl, rfl, by decide +kernel, rfl, by decide +kernel, by decide +kernel⟩

abbrev s_law_plus : Stmt := top 23
theorem sc_law_plus : FnScope ["_law_one", "_law_other"] ["_law_one", "_law_other"] (defScope s_law_plus) := ⟨rfl, rfl, rfl, by decide +kernel, rfl, by decide +kernel, by decide +kernel⟩

abbrev s_law_times : Stmt := top 24
theorem sc_law_times : FnScope ["_law_one", "_law_other"] ["_law_one", "_law_other"] (defScope s_law_times) := ⟨rfl, rfl, rfl, by decide +kernel, rfl, by decide +kernel, by decide +kernel⟩

abbrev s_law_whole : Stmt := top 25
theorem sc_law_whole : FnScope ["_law_thing", "_law_low", "_law_high"] ["_law_thing", "_law_low", "_law_high"] (defScope s_law_whole) := ⟨rfl, rfl, rfl, by decide +kernel, rfl, by decide +kernel, by decide +kernel⟩

abbrev s_law_truth : Stmt := top 26
theorem sc_law_truth : FnScope ["_law_told", "_law_due_here"] ["_law_told", "_law_due_here"] (defScope s_law_truth) := ⟨rfl, rfl, rfl, by decide +kernel, rfl, by decide +kernel, by decide +kernel⟩

abbrev s_law_int : Stmt := top 27
theorem sc_law_int : FnScope ["_law_thing"] ["_law_thing"] (defScope s_law_int) := ⟨rfl, rfl, rfl, by decide +kernel, rfl, by decide +kernel, by decide +kernel⟩

abbrev s_law_big : Stmt := top 28
theorem sc_law_big : FnScope ["_law_hand_here"] ["_law_hand_here"] (defScope s_law_big) := ⟨rfl, rfl, rfl, by decide +kernel, rfl, by decide +kernel, by decide +kernel⟩

abbrev s_law_signed : Stmt := top 29
theorem sc_law_signed : FnScope ["_law_hand_here", "_law_number"] ["_law_hand_here"] (defScope s_law_signed) := ⟨rfl, rfl, rfl, by decide +kernel, rfl, by decide +kernel, by decide +kernel⟩

abbrev s_law_is_ratio : Stmt := top 30
theorem sc_law_is_ratio : FnScope ["_law_thing"] ["_law_thing"] (defScope s_law_is_ratio) := ⟨rfl, rfl, rfl, by decide +kernel, rfl, by decide +kernel, by decide +kernel⟩

abbrev s_law_same_ratio : Stmt := top 31
theorem sc_law_same_ratio : FnScope ["_law_told", "_law_due_here"] ["_law_told", "_law_due_here"] (defScope s_law_same_ratio) := ⟨rfl, rfl, rfl, by decide +kernel, rfl, by decide +kernel, by decide +kernel⟩

abbrev s_law_make : Stmt := top 32
theorem sc_law_make : FnScope ["_law_top", "_law_bottom", "_law_found", "wrong"] ["_law_top", "_law_bottom"] (defScope s_law_make) := ⟨rfl, rfl, rfl, by decide +kernel, rfl, by decide +kernel, by decide +kernel⟩

abbrev s_law_over : Stmt := top 33
theorem sc_law_over : FnScope ["_law_one", "_law_other", "_law_found", "wrong"] ["_law_one", "_law_other"] (defScope s_law_over) := ⟨rfl, rfl, rfl, by decide +kernel, rfl, by decide +kernel, by decide +kernel⟩

abbrev s_law_number_or_odd : Stmt := top 34
theorem sc_law_number_or_odd : FnScope ["_law_hand_here"] ["_law_hand_here"] (defScope s_law_number_or_odd) := ⟨rfl, rfl, rfl, by decide +kernel, rfl, by decide +kernel, by decide +kernel⟩

abbrev s_law_due : Stmt := top 35
theorem sc_law_due : FnScope ["_law_top", "_law_bottom"] ["_law_top", "_law_bottom"] (defScope s_law_due) := ⟨rfl, rfl, rfl, by decide +kernel, rfl, by decide +kernel, by decide +kernel⟩

abbrev s_law_pair_right : Stmt := top 36
theorem sc_law_pair_right : FnScope ["_law_one", "_law_other", "_law_left", "_law_right", "_law_sign", "_law_found"] ["_law_one", "_law_other"] (defScope s_law_pair_right) := ⟨rfl, rfl, rfl, by decide +kernel, rfl, by decide +kernel, by decide +kernel⟩

abbrev s_law_things : Stmt := top 37
theorem sc_law_things : FnScope ["_law_hand_here", "_law_number"] ["_law_hand_here"] (defScope s_law_things) := ⟨rfl, rfl, rfl, by decide +kernel, rfl, by decide +kernel, by decide +kernel⟩

abbrev slaw : Stmt := top 38
theorem sclaw : FnScope ["_law_script", "_law_hand_here", "_law_turn", "_law_top", "_law_bottom", "_law_due_here", "_law_found", "_law_whole_here", "_law_ratios", "_law_total", "_law_one", "_law_other", "_law_least", "_law_most", "_law_thing"] ["_law_script"] (defScope slaw) := ⟨rfl, rfl, rfl, by decide +kernel, rfl, by decide +kernel, by decide +kernel⟩

/-- a def as it stands behind the top: where, its facts -/
structure Fn (K : PySem.W.Frag) (mg : Str → Option Value) (x : Str) (st : Stmt) (ps : List Str) where
  f : Addr
  fd : FuncData
  F : Fun K x x st f fd
  g : mg x = some (.ref f)
  b : Binds K fd ps []

end K01
set_option Elab.async false
set_option linter.all false
set_option maxRecDepth 100000
set_option maxHeartbeats 4000000
namespace K01
open PySem L2
/-- a statement, then the rest, with a word between them -/
def tCut (t u : TS) : TS := fun D σ H => ∃ Mid : L2.St → Hp → Prop, t { D with nx := Mid } σ H ∧ ∀ σ' H', Mid σ' H' → u D σ' H'
theorem cut {X : Cx} {st : Stmt} {rest : List Stmt} {t u : TS} (h1 : PS X st t) (h2 : PSs X rest u) : PSs X (st :: rest) (tCut t u) := by
  refine ⟨fun pins s σ H D I h => ?_⟩
  obtain ⟨Mid, hm, hu⟩ := h
  refine wpAny_execs_cons (thn (h1.run pins s σ H { D with nx := Mid } I hm) fun f s1 q => ?_)
  cases f with
  | next =>
    obtain ⟨σ', H', I', q⟩ := q
    exact h2.run pins s1 σ' H' D I' (hu σ' H' q)
  | ret v => exact q
  | brk => exact q
  | cont => exact q
/-! ### the drawing hand -/
/-- a hand stands at h: its cells in a list at c -/
structure HandAt (H : Hp) (h c : Addr) (cells : List Int) (i rest total : Int) : Prop where
  oh : H h = some (.lst [.ref c, .int i, .int rest, .int total])
  oc : H c = some (.lst (cells.map V.int))
  ne : h ≠ c
  len : cells.length ≤ 63
  i0 : 0 ≤ i
  i1 : i ≤ 63
  r0 : 0 ≤ rest
  t0 : 0 ≤ total
  t1 : total < 4294967296
  pos : ∀ z ∈ cells, 0 ≤ z
def Hand (H : Hp) (h c : Addr) : Prop := ∃ cells i rest total, HandAt H h c cells i rest total
/-- all but h stands as it stood -/
def Kept (h : Addr) (H H' : Hp) : Prop := ∀ b o, b ≠ h → H b = some o → H' b = some o
theorem Kept.refl {h : Addr} {H : Hp} : Kept h H H := fun _ _ _ e => e
theorem Kept.trans {h : Addr} {H H1 H2 : Hp} (a : Kept h H H1) (b : Kept h H1 H2) : Kept h H H2 := fun c o n e => b c o n (a c o n e)
theorem Kept.upd {h : Addr} {H : Hp} {o : HO} : Kept h H (upd H h o) := fun b u n e => by rw [upd_ne n]; exact e
theorem kept_new {h p : Addr} {H : Hp} {o : HO} (n : H p = none) : Kept h H (upd H p o) := fun b u _ e => by rw [upd_ne (ne_of_none e n)]; exact e
theorem same_new {p : Addr} {H : Hp} {o : HO} (n : H p = none) : Same H (upd H p o) := fun b u e => by rw [upd_ne (ne_of_none e n)]; exact e
theorem Same.kept {h : Addr} {H H' : Hp} (s : Same H H') : Kept h H H' := fun b o _ e => s b o e
theorem HandAt.same {H H' : Hp} {h c : Addr} {cells : List Int} {i rest total : Int} (A : HandAt H h c cells i rest total) (s : Same H H') : HandAt H' h c cells i rest total :=
  { A with oh := s _ _ A.oh, oc := s _ _ A.oc }
theorem Hand.same {H H' : Hp} {h c : Addr} (A : Hand H h c) (s : Same H H') : Hand H' h c := by
  obtain ⟨cells, i, rest, total, A⟩ := A
  exact ⟨cells, i, rest, total, A.same s⟩
/-- the hand's own list changed -/
theorem HandAt.put {H : Hp} {h c : Addr} {cells : List Int} {i rest total i' rest' total' : Int} (A : HandAt H h c cells i rest total) (a0 : 0 ≤ i') (a1 : i' ≤ 63) (b0 : 0 ≤ rest') (c0 : 0 ≤ total') (c1 : total' < 4294967296) :
    HandAt (upd H h (.lst [.ref c, .int i', .int rest', .int total'])) h c cells i' rest' total' :=
  ⟨upd_same, by rw [upd_ne (Ne.symm A.ne)]; exact A.oc, A.ne, A.len, a0, a1, b0, c0, c1, A.pos⟩

def spHand (K : PySem.W.Frag) : Sp := fun vs H Q _ => ∃ (a : Addr) (ns : List Int), vs = [.ref a] ∧ SqL K H a (ns.map V.int) ∧ ns.length ≤ 63 ∧
  ∀ (h c : Addr) (H' : Hp), H h = none → Same H H' → Hand H' h c → Q (.ref h) H'
def spMixed : Sp := fun vs H Q _ => ∃ (n t : Int), vs = [.int n, .int t] ∧ 0 ≤ n ∧ n < 4294967296 ∧ 0 ≤ t ∧ t ≤ 64 ∧ ∀ r : Int, 0 ≤ r → Q (.int r) H
def spTake : Sp := fun vs H Q _ => ∃ (h c : Addr) (m : Int), vs = [.ref h, .int m] ∧ 0 < m ∧ m.natAbs < 2 ^ 9000 ∧ Hand H h c ∧
  ∀ (r : Int) (H' : Hp), 0 ≤ r → r < m → Kept h H H' → Hand H' h c → Q (.int r) H'
theorem small64 {n : Nat} (h : n ≤ 64) : n < sizeLine := small1000 (by omega)
structure TxA (K : PySem.W.Frag) (mg : Str → Option Value) where
  law_hand : Fn K mg "_law_hand" s_law_hand ["_law_script"]
  law_mixed : Fn K mg "_law_mixed" s_law_mixed ["_law_number", "_law_turn"]
  law_take : Fn K mg "_law_take" s_law_take ["_law_hand_here", "_law_many"]
  len : mg "len" = none
  abs : mg "abs" = none
  int : mg "int" = none
section
variable {P : Program} {w : World} {K : PySem.W.Frag} {mg : Str → Option Value} {base : Heap}
theorem ok_hand (T : TxA K mg) : FnOk P w K mg base CX0 1 T.law_hand.f T.law_hand.fd ["_law_script"] (spHand K) := by
  refine T.law_hand.F.ok sc_law_hand (fun vs H Q E h => ?_) (fun cdv A outer s H vs Q E hr h => ?_)
  · obtain ⟨a, ns, rfl, _⟩ := h
    rfl
  · obtain ⟨a, ns, rfl, hS, hlen, k⟩ := h
    refine ⟨_, (pss_cons (ps_set (i := 1) sc_law_hand.nd rfl (Or.inl rfl) (pe_op op_add (pe_callB call_len_seq (by rfl) T.len PySem.boot_len (pa_cons (pv 0) pa_nil)) pe_int))
  (pss_cons (ps_set (i := 2) sc_law_hand.nd rfl (Or.inl rfl) (pe_lst pa_nil))
  (pss_cons (ps_for PassesOwn.never rfl (pi_list (pv 0)) (pg_name (i := 3) sc_law_hand.nd rfl (Or.inl rfl))
  (pss_cons (ps_set (i := 1) sc_law_hand.nd rfl (Or.inl rfl) (pe_op op_mod (pe_callTy call_int1 (by rfl) T.int (by decide +kernel) (pa_cons (pe_op op_add (pe_op op_mulW (pv 1) pe_int) (pe_callTy call_int1 (by rfl) T.int (by decide +kernel) (pa_cons (pv 3) pa_nil))) pa_nil)) pe_int))
  (pss_one (ps_expr (pe_bm PySem.F.plainAttrs_list PySem.F.slot_list_append PySem.F.type_list_append mt_append (pv 2) (pa_cons (pe_callB call_abs (by rfl) T.abs (by decide +kernel) (pa_cons (pe_callTy call_int1 (by rfl) T.int (by decide +kernel) (pa_cons (pv 3) pa_nil)) pa_nil)) pa_nil))))))
  (pss_one (ps_ret (pe_lst (pa_cons (pv 2) (pa_cons pe_int (pa_cons pe_int (pa_cons (pv 1) pa_nil)))))))))), ?_⟩
    -- total = len(script) + 71; cells = []
    refine ⟨_, rfl, a, _, rfl, .inl hS, _, _, rfl, rfl, (by show 0 ≤ sizeLine; decide), fun c hc => ?_⟩
    have s0 : Same H (upd H c (.lst [])) := same_new hc
    refine ⟨_, rfl, a, rfl, ⟨_, s0.seq hS⟩, for_list (K := K) (a := a) (xs := ns.map V.int)
      (fun i σ H2 => ∃ (cells : List Int) (total : Int) (v : Option V), σ = [some (.ref a), some (.int total), some (.ref c), v] ∧ Same H H2 ∧ H2 c = some (.lst (cells.map V.int)) ∧ cells.length = i ∧ 0 ≤ total ∧ total < 4294967296 ∧ ∀ z ∈ cells, 0 ≤ z)
      ⟨[], _, none, rfl, s0, upd_same, rfl, ?_, ?_, by simp⟩ (fun i σ H2 _ ⟨_, _, _, _, s2, _⟩ => s2.seq hS) ?_ ?_⟩
    · simp only [List.length_map]; omega
    · simp only [List.length_map]; omega
    · rintro i y σ H2 hi ⟨cells, total, v, rfl, s2, hcs, hl, t0, t1, pos⟩
      have hil : i < (ns.map V.int).length := (List.getElem?_eq_some_iff.mp hi).1
      rw [List.length_map] at hil
      obtain ⟨z, rfl⟩ : ∃ z, y = V.int z := by
        rw [List.getElem?_map] at hi
        cases e : ns[i]? with
        | none => rw [e] at hi; cases hi
        | some z => rw [e] at hi; exact ⟨z, (Option.some.inj hi).symm⟩
      -- total = int(total * 1033 + int(cell)) % 2147483563
      refine ⟨_, rfl, _, _, rfl, rfl, wide_mul (a := 32) (b := 32) (by omega) (by decide) (by decide) (by decide) (by decide), _, rfl, .inl ⟨_, rfl, _, _, rfl, rfl, .inl ⟨_, rfl, _, _, rfl, rfl, (by show (0 : Int) < 2147483563; decide), ?_⟩⟩⟩
      -- cells.append(abs(int(cell)))
      refine ⟨_, rfl, .inl ⟨rfl, _, SqL.of hcs⟩, _, rfl, .inl ⟨_, rfl, _, rfl, c, _, _, rfl, rfl, hcs, small64 (by rw [List.length_map]; omega), ?_⟩⟩
      refine ⟨cells ++ [if z < 0 then -z else z], _, some (.int z), rfl, fun b o e => ?_, ?_, by simp [hl], ?_, ?_, ?_⟩
      · rw [upd_ne (ne_of_none e hc)]; exact s2 b o e
      · rw [upd_same, List.map_append]; rfl
      · exact Int.emod_nonneg _ (by decide)
      · have := Int.emod_lt_of_pos (total * 1033 + z) (show (0 : Int) < 2147483563 by decide)
        omega
      · intro x hx
        rcases List.mem_append.mp hx with hx | hx
        · exact pos x hx
        · rw [List.mem_singleton.mp hx]
          split <;> omega
    · rintro σ H2 ⟨cells, total, v, rfl, s2, hcs, hl, t0, t1, pos⟩
      rw [List.length_map] at hl
      refine ⟨_, rfl, _, rfl, (by show 4 ≤ sizeLine; decide), fun p hp => ?_⟩
      refine k p c _ (s2.free hp) (s2.trans (same_new hp)) ⟨cells, 0, 0, total, upd_same, ?_, (ne_of_none hcs hp).symm, by omega, by decide, by decide, by decide, t0, t1, pos⟩
      rw [upd_ne (ne_of_none hcs hp)]; exact hcs
end
end K01
set_option Elab.async false
set_option linter.all false
set_option maxRecDepth 100000
set_option maxHeartbeats 4000000
namespace K01
open PySem L2
theorem md {x m : Int} (h : 0 < m) : 0 ≤ x % m ∧ x % m < m := ⟨Int.emod_nonneg _ (by omega), Int.emod_lt_of_pos _ h⟩
section
variable {P : Program} {w : World} {K : PySem.W.Frag} {mg : Str → Option Value} {base : Heap}
theorem ok_mixed (T : TxA K mg) : FnOk P w K mg base CX0 1 T.law_mixed.f T.law_mixed.fd ["_law_number", "_law_turn"] spMixed := by
  refine T.law_mixed.F.ok sc_law_mixed (fun vs H Q E h => ?_) (fun cdv A outer s H vs Q E hr h => ?_)
  · obtain ⟨n, t, rfl, _⟩ := h
    rfl
  · obtain ⟨n, t, rfl, n0, n1, t0, t1, k⟩ := h
    refine ⟨_, (cut (ps_set (i := 2) sc_law_mixed.nd rfl (Or.inl rfl) (pe_op op_mod (pe_callTy call_int1 (by rfl) T.int (by decide +kernel) (pa_cons (pe_op op_add (pe_op op_add (pe_op op_mulW (pv 0) pe_int) (pe_op op_mulW (pv 1) pe_int)) pe_int) pa_nil)) pe_int))
  (cut (ps_set (i := 3) sc_law_mixed.nd rfl (Or.inl rfl) (pe_op op_mod (pe_callTy call_int1 (by rfl) T.int (by decide +kernel) (pa_cons (pe_op op_add (pe_op op_add (pe_op op_mulW (pv 2) (pv 2)) (pe_op op_mulW (pv 1) pe_int)) (pe_op op_fdivW (pv 2) pe_int)) pa_nil)) pe_int))
  (pss_one (ps_ret (pe_op op_fdivW (pe_callTy call_int1 (by rfl) T.int (by decide +kernel) (pa_cons (pe_op op_mod (pe_callTy call_int1 (by rfl) T.int (by decide +kernel) (pa_cons (pe_op op_add (pe_op op_mulW (pv 3) pe_int) (pe_op op_fdivW (pv 2) pe_int)) pa_nil)) pe_int) pa_nil)) pe_int))))), ?_⟩
    have wm : ∀ {x y : Int}, 0 ≤ x → x < 4294967296 → 0 ≤ y → y < 4294967296 → CMulW x y := fun a b c d => wide_mul (a := 32) (b := 32) (by omega) (by omega) (by decide) (by decide) (by decide)
    refine ⟨fun σ' H' => H' = H ∧ ∃ o : Int, (0 ≤ o ∧ o < 2147483399) ∧ σ' = [some (.int n), some (.int t), some (.int o), none], ?_, ?_⟩
    · exact ⟨_, rfl, _, _, rfl, rfl, wm n0 n1 (by decide) (by decide), _, rfl, _, _, rfl, rfl, wm t0 (by omega) (by decide) (by decide), _, _, rfl, rfl, _, _, rfl, rfl, .inl ⟨_, rfl, _, _, rfl, rfl, (by show (0 : Int) < 2147483399; decide), rfl, _, md (by decide), rfl⟩⟩
    rintro σ' H' ⟨rfl, o, o1, rfl⟩
    refine ⟨fun σ' H2 => H2 = H' ∧ ∃ q : Int, (0 ≤ q ∧ q < 2147483629) ∧ σ' = [some (.int n), some (.int t), some (.int o), some (.int q)], ?_, ?_⟩
    · exact ⟨_, rfl, _, rfl, _, _, rfl, rfl, wm o1.1 (by omega) o1.1 (by omega), _, rfl, _, _, rfl, rfl, wm t0 (by omega) (by decide) (by decide), _, _, rfl, rfl, _, rfl, _, _, rfl, rfl, wide_div (b := 8) (by decide) (by decide) (by decide) (by decide), _, _, rfl, rfl, .inl ⟨_, rfl, _, _, rfl, rfl, (by show (0 : Int) < 2147483629; decide), rfl, _, md (by decide), rfl⟩⟩
    rintro σ' H2 ⟨rfl, q, o2, rfl⟩
    exact ⟨_, rfl, _, _, rfl, rfl, wm o2.1 (by omega) (by decide) (by decide), _, rfl, _, _, rfl, rfl, wide_div (b := 8) (by decide) (by decide) (by decide) (by decide), _, _, rfl, rfl, .inl ⟨_, rfl, _, _, rfl, rfl, (by show (0 : Int) < 2147483587; decide), .inl ⟨_, rfl, _, _, rfl, rfl, wide_div (b := 8) (by decide) (by decide) (by decide) (by decide), k _ (Int.ediv_nonneg (md (by decide)).1 (by decide))⟩⟩⟩

theorem ok_take (T : TxA K mg) : FnOk P w K mg base CX0 2 T.law_take.f T.law_take.fd ["_law_hand_here", "_law_many"] spTake := by
  have GM : FnOk P w K mg base CX0 1 T.law_mixed.f T.law_mixed.fd ["_law_number", "_law_turn"] spMixed := ok_mixed T
  refine T.law_take.F.ok sc_law_take (fun vs H Q E h => ?_) (fun cdv A outer s H vs Q E hr h => ?_)
  · obtain ⟨n, _, t, rfl, _⟩ := h
    rfl
  · obtain ⟨h, c, m, rfl, m0, m1, ⟨cells, i, rest, total, A⟩, k⟩ := h
    refine ⟨_, (cut (ps_if (PW.pt (pw_and (pt_cmpR op_eq (pe_ix ix_list (pv 0) pe_int (fun _ _ => rfl)) pe_int (nomark _)) (pw_and1 (pt_cmpR op_lt (pe_ix ix_list (pv 0) pe_int (fun _ _ => rfl)) (pe_callB call_len_seq (by rfl) T.len PySem.boot_len (pa_cons (pe_ix ix_list (pv 0) pe_int (fun _ _ => rfl)) pa_nil)) (nomark _))))) (pss_cons (ps_set (i := 2) sc_law_take.nd rfl (Or.inl rfl) (pe_ix ix_list (pe_ix ix_list (pv 0) pe_int (fun _ _ => rfl)) (pe_ix ix_list (pv 0) pe_int (fun _ _ => rfl)) (fun _ _ => rfl)))
  (pss_cons (ps_asg (pe_op op_add (pe_ix ix_list (pv 0) pe_int (fun _ _ => rfl)) pe_int) (pg_sub (pv 0) pe_int set_list))
  (pss_cons (ps_if (pt_cmpR op_lt (pv 2) (pe_op op_pow pe_int pe_int) (nomark _)) (pss_one (ps_ret (pe_op op_mod (pe_callTy call_int1 (by rfl) T.int (by decide +kernel) (pa_cons (pe_call GM (hr.mono (by decide)) rfl T.law_mixed.g T.law_mixed.F.kp T.law_mixed.b .nil pass0 (pa_cons (pe_op op_mod (pe_callTy call_int1 (by rfl) T.int (by decide +kernel) (pa_cons (pv 2) pa_nil)) pe_int) (pa_cons (pe_ix ix_list (pv 0) pe_int (fun _ _ => rfl)) pa_nil))) pa_nil)) (pv 1)))) pss_nil)
  (pss_one (ps_asg (pv 2) (pg_sub (pv 0) pe_int set_list)))))) pss_nil)
  (pss_cons (ps_if (pt_cmpR op_gt (pe_ix ix_list (pv 0) pe_int (fun _ _ => rfl)) pe_int (nomark _)) (pss_cons (ps_set (i := 3) sc_law_take.nd rfl (Or.inl rfl) (pe_ix ix_list (pv 0) pe_int (fun _ _ => rfl)))
  (pss_cons (ps_asg (pe_op op_fdivW (pe_callTy call_int1 (by rfl) T.int (by decide +kernel) (pa_cons (pv 3) pa_nil)) (pv 1)) (pg_sub (pv 0) pe_int set_list))
  (pss_one (ps_ret (pe_op op_mod (pe_callTy call_int1 (by rfl) T.int (by decide +kernel) (pa_cons (pv 3) pa_nil)) (pv 1)))))) pss_nil)
  (cut (ps_asg (pe_op op_mod (pe_callTy call_int1 (by rfl) T.int (by decide +kernel) (pa_cons (pe_op op_add (pe_ix ix_list (pv 0) pe_int (fun _ _ => rfl)) pe_int) pa_nil)) pe_int) (pg_sub (pv 0) pe_int set_list))
  (pss_one (ps_ret (pe_op op_mod (pe_callTy call_int1 (by rfl) T.int (by decide +kernel) (pa_cons (pe_call GM (hr.mono (by decide)) rfl T.law_mixed.g T.law_mixed.F.kp T.law_mixed.b .nil pass0 (pa_cons (pe_ix ix_list (pv 0) pe_int (fun _ _ => rfl)) (pa_cons (pe_ix ix_list (pv 0) pe_int (fun _ _ => rfl)) pa_nil))) pa_nil)) (pv 1))))))), ?_⟩
    have at2 : ∀ {H2 : Hp} {i' r' t' : Int}, H2 h = some (.lst [.ref c, .int i', .int r', .int t']) → SqL K H2 h [.ref c, .int i', .int r', .int t'] := fun e => SqL.of e
    refine ⟨fun σ' H' => ∃ (i' rest' : Int) (v2 : Option V), σ' = [some (.ref h), some (.int m), v2, none] ∧ Kept h H H' ∧ HandAt H' h c cells i' rest' total, ?_, ?_⟩
    · refine ⟨_, rfl, h, _, 2, .int rest, rfl, rfl, at2 A.oh, atI_nat rfl, rfl, _, rfl, ?_⟩
      refine ite2 (fun e => ?_) (fun e => ?_)
      · refine ⟨_, rfl, h, _, 1, .int i, rfl, rfl, at2 A.oh, atI_nat rfl, _, rfl, h, _, 0, .ref c, rfl, rfl, at2 A.oh, atI_nat rfl, c, _, rfl, .inl (SqL.of A.oc), _, _, rfl, rfl, _, rfl, ?_⟩
        refine ite2 (fun e1 => ?_) (fun e1 => ?_)
        · rw [List.length_map] at e1
          have il : i < cells.length := of_decide_eq_true e1
          obtain ⟨z, hz⟩ : ∃ z, cells[i.toNat]? = some z := ⟨cells[i.toNat]'(by have := A.i0; omega), List.getElem?_eq_getElem _⟩
          have zp : 0 ≤ z := A.pos z (List.mem_of_getElem? hz)
          have A0 := A.i0
          have AL := A.len
          refine ⟨_, rfl, h, _, 0, .ref c, rfl, rfl, at2 A.oh, atI_nat rfl, _, rfl, h, _, 1, .int i, rfl, rfl, at2 A.oh, atI_nat rfl, c, _, i, .int z, rfl, rfl, SqL.of A.oc, at_of (j := i.toNat) (by omega) (by rw [List.getElem?_map, hz]; rfl), ?_⟩
          -- hand[1] = hand[1] + 1
          refine ⟨_, rfl, h, _, 1, .int i, rfl, rfl, at2 A.oh, atI_nat rfl, _, _, rfl, rfl, _, rfl, h, _, 1, 1, rfl, rfl, A.oh, rfl, ?_⟩
          have B : HandAt (upd H h (.lst [.ref c, .int (i + 1), .int rest, .int total])) h c cells (i + 1) rest total := A.put (by omega) (by omega) A.r0 A.t0 A.t1
          refine ⟨_, rfl, _, _, rfl, rfl, (by show CPow 10 18; unfold CPow; decide), _, _, rfl, rfl, _, rfl, ?_⟩
          refine ite2 (fun e2 => ?_) (fun e2 => ?_)
          · refine ⟨_, rfl, .inl ⟨_, rfl, _, _, rfl, rfl, (by show (0 : Int) < 2147483399; decide), _, rfl, h, _, 1, .int (i + 1), rfl, rfl, at2 B.oh, atI_nat rfl, _, _, rfl, (md (by decide)).1, ?_, by omega, by omega, fun r r0 => ?_⟩⟩
            · have := (md (x := z) (show (0 : Int) < 2147483399 by decide)).2
              omega
            · exact .inl ⟨_, rfl, _, rfl, _, _, rfl, rfl, m0, k _ _ (md m0).1 (md m0).2 Kept.upd ⟨_, _, _, _, B⟩⟩
          · refine ⟨_, rfl, _, rfl, h, _, 2, 2, rfl, rfl, B.oh, rfl, ?_⟩
            exact ⟨i + 1, z, _, rfl, Kept.upd.trans Kept.upd, B.put (by omega) (by omega) zp A.t0 A.t1⟩
        · exact ⟨i, rest, _, rfl, Kept.refl, A⟩
      · exact ⟨i, rest, _, rfl, Kept.refl, A⟩
    rintro σ' H2 ⟨i', rest', v2, rfl, kp, B⟩
    have B0 := B.i0
    have B1 := B.i1
    -- if hand[2] > 0
    refine ⟨_, rfl, h, _, 2, .int rest', rfl, rfl, at2 B.oh, atI_nat rfl, _, _, rfl, rfl, _, rfl, ?_⟩
    refine ite2 (fun e => ?_) (fun e => ?_)
    · refine ⟨_, rfl, h, _, 2, .int rest', rfl, rfl, at2 B.oh, atI_nat rfl, _, rfl, .inl ⟨_, rfl, _, rfl, _, _, rfl, rfl, wide_div m0 m1 (by decide) (by decide), _, rfl, h, _, 2, 2, rfl, rfl, B.oh, rfl, ?_⟩⟩
      refine ⟨_, rfl, .inl ⟨_, rfl, _, rfl, _, _, rfl, rfl, m0, k _ _ (md m0).1 (md m0).2 (kp.trans Kept.upd) ⟨_, _, _, _, B.put B.i0 B.i1 (Int.ediv_nonneg B.r0 (by omega)) B.t0 B.t1⟩⟩⟩
    · refine ⟨fun σ' H3 => ∃ total' : Int, σ' = [some (.ref h), some (.int m), v2, none] ∧ Kept h H H3 ∧ HandAt H3 h c cells i' rest' total', ?_, ?_⟩
      · have t2 := md (x := total + 1) (show (0 : Int) < 2147483563 by decide)
        refine ⟨_, rfl, h, _, 3, .int total, rfl, rfl, at2 B.oh, atI_nat rfl, _, _, rfl, rfl, .inl ⟨_, rfl, _, _, rfl, rfl, (by show (0 : Int) < 2147483563; decide), _, rfl, h, _, 3, 3, rfl, rfl, B.oh, rfl, ?_⟩⟩
        exact ⟨_, rfl, kp.trans Kept.upd, B.put B.i0 B.i1 B.r0 t2.1 (by omega)⟩
      rintro σ' H3 ⟨total', rfl, kp3, C⟩
      refine ⟨_, rfl, h, _, 3, .int total', rfl, rfl, at2 C.oh, atI_nat rfl, _, rfl, h, _, 1, .int i', rfl, rfl, at2 C.oh, atI_nat rfl, _, _, rfl, C.t0, C.t1, C.i0, by have := C.i1; omega, fun r r0 => ?_⟩
      exact .inl ⟨_, rfl, _, rfl, _, _, rfl, rfl, m0, k _ _ (md m0).1 (md m0).2 kp3 ⟨_, _, _, _, C⟩⟩
end
end K01
set_option Elab.async false
set_option linter.all false
set_option maxRecDepth 100000
set_option maxHeartbeats 2000000
namespace PySem
namespace LowX
open PySem.W PySem.Calls PyProof.Rows PySem.HandSPX
/-! ### the text of __init__ -/
def iA (p1 p2 : Pos) : Arguments := { posonlyargs := [], args := [{ arg := "self", annotation := none, pos := p1 }, { arg := "what", annotation := none, pos := p2 }], vararg := none, kwonlyargs := [], kw_defaults := [], kwarg := none, defaults := [] }
def iB (q1 q2 q3 q4 : Pos) : List Stmt := [.Assign [.Attribute (.Name "self" q1) "what" q2] (.Name "what" q3) q4]
def iS : Scope := { kind := .function, names := [(PySem.Str.ofString "self", .local), (PySem.Str.ofString "what", .local)], isGenerator := false, isCoroutine := false, more := [] }
/-- what the written part says of Low, at C, and of its __init__, at fI -/
structure LowTxt (K : Frag) (mg : Str → Option Value) (C fI : Addr) : Prop where
  gC : mg "BadRatio" = some (.ref C)
  cls : ∃ nm q N bs bm sn sub ab col dd k0 k1 k2 k3 k5, K.lookup C = some (excClassObj nm q C N bs bm true sn sub ab col dd k0 k1 k2 k3 k5 "ValueError.__new__") ∧ refsVE bm = true
  sa : findIn K (.ref C) "__setattr__" = some (some (.builtin "object.__setattr__"))
  ga : findIn K (.ref C) "__getattribute__" = some (some (.builtin "BaseException.__getattribute__"))
  gg : findIn K (.ref C) "__getattr__" = some none
  noN : findIn K (.ref C) "what" = some none
  iC : findIn K (.ref C) "__init__" = some (some (.ref fI))
  tC : typeIn K (.ref fI) = some (.type "function")
  kC : keepIn K (.ref C) = true
  exC : subIn K (.ref C) (.type "BaseException") = some true
  tyC : typeIn K (.ref C) = some (.type "type")
  hdC : hasDictIn K C = true
  te : exmOne K (.ref C) (.ref C) = some true
  fn : ∃ (oc : Value) (od : Option Addr) (doc pm : Value) (an : Option Addr) (cdv ct : Value) (osl : Array (Option Value)) (p1 p2 q1 q2 q3 q4 : Pos),
    K.lookup fI = some ⟨oc, od, .func (fnOf "__init__" "BadRatio.__init__" (iA p1 p2) (iB q1 q2 q3 q4) iS .none .none doc pm an cdv ct), osl⟩ ∧ codeIn K cdv "BadRatio.__init__" = true
theorem one_size (v : Value) : [v].length ≤ sizeLine := by
  rw [sizeLine_eq]
  exact (by decide : 1 ≤ 16777216)
theorem kept_but {K : Frag} {h h' : Heap} {x : Addr} (X : K.In h) (hx : K.lookup x = none) (k : ∀ b o, b ≠ x → h.get? b = some o → h'.get? b = some o) : K.In h' := fun a o e =>
  k a o (fun z => by rw [z, hx] at e; cases e) (X a o e)
theorem ldC {M : Model} {s : Shared} {name : Str} {scope : Scope} {L a : Addr} {cd : Value} {m : Str → Option Value} {x : Str} {pos : Pos} {v : Value} {Q : Value → Shared → Prop} {A : Around} {E : Value → Shared → Prop} (hn : s.heap.Ns L m) (hv : m x = some v) (h : Q v s)
    (hk : scope.kind = .function := by rfl) (hl : (envOfC name scope L a cd).kindOf x = some .local := by rfl) (hd : (x == ("__debug__" : Str)) = false := by decide) :
    wpAny M A (eval (.Name x pos) (envOfC name scope L a cd)) Q E s := wpAny_Name (wpAny_loadName_local hk hl hn hv h) hd
/-- what __init__ leaves of a fresh exception at x -/
structure InitEnd (h h' : Heap) (x C dx t1 : Addr) (v : Value) : Prop where
  keep : ∀ b o, b ≠ x → h.get? b = some o → h'.get? b = some o
  obj : h'.get? x = some { cls := .ref C, dict := some dx, data := .fields #[.ref t1, .none, .none, .none, .bool false, .none] }
  dbig : h.objs.size ≤ dx
  dne : dx ≠ x
  ns : h'.Ns1 dx (fun y => if y = "what" then some v else none)
/-- a made Low -/
structure OwnMade (h h' : Heap) (e C d : Addr) (v : Value) : Prop where
  keep : ∀ b o, h.get? b = some o → h'.get? b = some o
  new : h.objs.size ≤ e
  obj : ∃ oe vs, h'.get? e = some oe ∧ oe.cls = .ref C ∧ oe.dict = some d ∧ oe.data = .fields vs ∧ vs[1]? = some .none
  dbig : h.objs.size ≤ d
  dne : d ≠ e
  ns : h'.Ns1 d (fun y => if y = "what" then some v else none)
section
variable {prog : Program} {w : World} {A : Around} {E : Value → Shared → Prop} {R : Result → Shared → Prop} {s : Shared} {K : Frag} {mg : Str → Option Value} {C fI : Addr}
theorem low_init (T : LowTxt K mg C fI) {x t0 : Addr} {v : Value} (X : K.In s.heap) (hlim : s.heap.NoLimit) (hx : s.heap.get? x = some (excO C t0)) (hnx : K.lookup x = none) (hroom : A.depth < recursionLimit)
    (hq : ∀ h' tk dx, InitEnd s.heap h' x C dx t0 v → R (.ok (.ret .none)) { s with heap := h', toks := tk }) :
    codeAny (model prog w) A (.call (.ref fI) ⟨[.ref x, v], []⟩) R s := by
  obtain ⟨oc, od, doc, pm, an, cdv, ct, osl, p1, p2, q1, q2, q3, q4, ho, hcd⟩ := T.fn
  obtain ⟨nm, q, N, bs, bm, sn, sub, ab, col, dd, k0, k1, k2, k3, k5, hC, hbm⟩ := T.cls
  have hcl : clsIn K C = some { name := nm, bases := bs, mro := .ref C :: bm, ns := N, qualname := q, hasDict := true, slotNames := sn, subclasses := sub, abstract := ab, collection := col, hasDel := false } := by unfold clsIn; rw [hC] <;> rfl
  refine Att.call_fn (binds := [("self", .ref x), ("what", v)]) X hlim ho hcd hroom (BindsTo.of_eq (by first | rfl | with_unfolding_all rfl)) (by first | rfl | decide | with_unfolding_all rfl) (fun s₁ IC => ?_) rfl rfl rfl
  obtain ⟨h₁, tk₁, rfl⟩ := IC.toInCall.same
  have k : ∀ b o, s.heap.get? b = some o → h₁.get? b = some o := IC.toInCall.keep
  have hn := IC.toInCall.ns
  have hxL : s.heap.objs.size ≠ x := Nat.ne_of_gt (Heap.lt_size hx)
  have X₁ : K.In h₁ := X.keeps k
  have hx₁ := k _ _ hx
  -- self.by = by
  show wpAny _ _ (execs _ _) _ _ _
  refine wpAny_execs_cons (plainObj_wpAny_Assign_Attribute ?_)
  refine ldC (v := v) hn (by first | rfl | with_unfolding_all rfl | kernel_rfl) (ldC (v := .ref x) hn (by first | rfl | with_unfolding_all rfl | kernel_rfl) ?_)
  refine set_plain X₁ (ox := excO C t0) (od := none) ⟨hx₁, rfl, rfl, trivial⟩ T.sa ?_
  refine exc_osa X₁ hx₁ hcl (show refsVE (.ref C :: bm) = true from hbm) rfl T.noN (fun h₃ tk₃ dx k₃ dn dne hx₃ hn₃ => ?_)
  show wpAny _ _ (execs _ _) _ _ _
  have z : s.heap.objs.size < h₁.objs.size := hn.lt
  exact wpAny_execs_nil (hq h₃ tk₃ dx ⟨fun b o hb e => k₃ b o hb (k b o e), hx₃, Nat.le_of_lt (Nat.lt_of_lt_of_le z dn), dne, hn₃⟩)
theorem low_made (T : LowTxt K mg C fI) {v : Value} (X : K.In s.heap) (hlim : s.heap.NoLimit) (hroom : A.depth + 1 < recursionLimit)
    (hq : ∀ h' tk e d, OwnMade s.heap h' e C d v → R (.ok (.ret (.ref e))) { s with heap := h', toks := tk }) :
    codeAny (model prog w) A (.call (.ref C) ⟨[v], []⟩) R s := by
  obtain ⟨nm, q, N, bs, bm, sn, sub, ab, col, dd, k0, k1, k2, k3, k5, hC, hbm⟩ := T.cls
  obtain ⟨hp, g, dr, tk, os⟩ := s
  have k : ∀ b o, hp.get? b = some o → ((hp.push (kdv_tup [v])).push (excO C hp.objs.size)).get? b = some o := fun b o e => Heap.get?_push_of_some _ (Heap.get?_push_of_some _ e)
  have hget : ((hp.push (kdv_tup [v])).push (excO C hp.objs.size)).get? (hp.objs.size + 1) = some (excO C hp.objs.size) := by heap_get
  have hnx : K.lookup (hp.objs.size + 1) = none := by
    cases e : K.lookup (hp.objs.size + 1) with
    | none => rfl
    | some o =>
      have z : hp.get? (hp.objs.size + 1) = some o := X _ _ e
      exact absurd (Nat.lt_of_succ_lt (Heap.lt_size z)) (Nat.lt_irrefl _)
  refine call_own F.excBase_ValueError (fun X => refsVE_contains X bm hbm) (X _ _ hC) (looks_findIn X T.iC) (fun self => bind_fn X self T.tC) (one_size v) ?_
  refine low_init (s := ⟨(hp.push (kdv_tup [v])).push (excO C hp.objs.size), g, dr, tk, os⟩) T (X.keeps k) (hlim.keeps k) hget hnx ?_ fun h' tk' dx ⟨k', hx, dn, dne, hns⟩ => ?_
  · show A.depth + 1 < recursionLimit
    exact hroom
  · have old : ∀ b o, hp.get? b = some o → h'.get? b = some o := fun b o e => k' b o (Nat.ne_of_lt (Nat.lt_succ_of_lt (Heap.lt_size e))) (k b o e)
    have z : hp.objs.size + 1 + 1 ≤ dx := by
      first
        | (simpa only [Heap.size_push] using dn)
        | exact dn
        | (have q := dn; rw [Heap.size_push, Heap.size_push] at q; exact q)
    exact ⟨rfl, hq h' tk' (hp.objs.size + 1) dx ⟨old, Nat.le_succ _, ⟨_, _, hx, rfl, rfl, rfl, rfl⟩, Nat.le_trans (Nat.le_trans (Nat.le_succ _) (Nat.le_succ _)) z, dne, hns⟩⟩
end
end LowX
end PySem
namespace L2
open PySem PySem.Spec PyProof.Rows
theorem relO_low {v : V} {v' : Value} (r : RelV v v') (f : Str) : RelO (List.lookup f [(("what" : Str), v)]) (if f = "what" then some v' else none) := by
  by_cases hw : f = "what"
  · subst hw
    rw [if_pos rfl]
    have q : List.lookup ("what" : Str) [(("what" : Str), v)] = some v := by simp [List.lookup]
    rw [q]
    exact r
  · rw [if_neg hw]
    have qw : (f == ("what" : Str)) = false := by simpa using hw
    have q2 : List.lookup f [(("what" : Str), v)] = none := by simp [List.lookup, qw]
    rw [q2]
    trivial
section
variable {X : Cx} {C fI : Addr}
/-- Low(e) -/
def tMkLow (C : Addr) (ta : TA) : St → Hp → XK → Prop := fun σ H Q => ta σ H fun vs H1 => ∃ v, vs = [v] ∧ ∀ d, H1 d = none → Q (.ref C) (some d) (upd H1 d (.xd [(("what" : Str), v)]))
theorem pmk_low {a : Expr} {ta : TA} {p pos : Pos} {k : Nat} (T : PySem.LowX.LowTxt X.K X.mg C fI) (hr : Room k X.A) (ha : PA X [a] ta) (hg : Gl X "BadRatio" := by rfl)
    (he : starEach (a :: []) X.env = (false, eval a X.env) :: starEach [] X.env := by rfl) (hpl : (backTo pos (starEach [] X.env)).any (·.1) = false := by rfl) :
    PMk X (.Call (.Name "BadRatio" p) [a] [] pos) (tMkLow C ta) := by
  intro pins s σ H Q I h
  refine wpAny_Call_Name_kw (ld_glob I hg T.gC ?_)
  refine PySem.W.callWith_K (h₀ := X.base) I.ok.mod.kin T.kC (thn (ha.run pos pins s σ H _ I h) fun us s1 hh => ?_) he hpl
  obtain ⟨vs, H1, I1, r1, v, ev, q1⟩ := hh
  subst ev
  refine ⟨I1.kIn, ?_⟩
  cases r1 with
  | cons rv rn =>
    rename_i v' us'
    cases rn
    show wpAny _ _ (call (.ref C) [v']) _ _ _
    have hlim := I1.nolimit
    obtain ⟨hp, g, dr, tk, os⟩ := s1
    refine wpAny_call (PySem.LowX.low_made T I1.kIn hlim (by have := hr.dp; omega) fun h' tk' e d M => ?_)
    show MkP X pins σ Q (.ref e) ⟨h', g, dr, tk', os⟩
    obtain ⟨oe, fv, hoe, hc, hd, hdat, h1⟩ := M.obj
    have hns := M.ns
    obtain ⟨G', g1, g2⟩ := restrict h' fun b => decide (b ≠ e)
    have gk : ∀ b, b ≠ e → G'.get? b = h'.get? b := fun b hb => g1 b (decide_eq_true hb)
    have ge : G'.get? e = none := g2 e (by simp)
    have old : ∀ b o, hp.get? b = some o → G'.get? b = some o := fun b o q => (gk b (Nat.ne_of_lt (Nat.lt_of_lt_of_le (Heap.lt_size q) M.new))).trans (M.keep b o q)
    have ob : ObjOk X.prog X.w (upd H1 d (.xd [(("what" : Str), v)])) G' d (.xd [(("what" : Str), v)]) :=
      ⟨_, hns.at (fun o q => (gk d M.dne).trans q), fun f => relO_low rv f⟩
    have J : Inv X pins σ (upd H1 d (.xd [(("what" : Str), v)])) ⟨G', g, dr, tk', os⟩ := I1.laid (t' := tk') old M.dbig ob
    refine ⟨e, oe, fv, ⟨G', g, dr, tk', os⟩, _, .ref C, some d, rfl, J, fun b o q => ?_, ge, hoe, ⟨hc, hd⟩, hdat, h1, ?_, rfl, I1.bare, raises_own T.exC T.tyC, q1 d (I1.hok.fresh M.dbig)⟩
    · by_cases hb : b = e
      · have q' : G'.get? b = some o := q
        rw [hb, ge] at q'; cases q'
      · exact (gk b hb).symm.trans q
    · rw [upd_ne (Ne.symm M.dne)]
      exact I1.hok.fresh M.new
/-- raise Low(e) -/
def tRaiseLow (C : Addr) (W : WX) (ta : TA) : TS := fun _ σ H => tMkLow C ta σ H fun cls d H' => W cls d σ H'
theorem ps_raiseLow {a : Expr} {ta : TA} {W : WX} {p pos pos2 : Pos} {k : Nat} (hc : X.calm = true) (T : PySem.LowX.LowTxt X.K X.mg C fI) (hr : Room k X.A) (tk : Takes X W) (ha : PA X [a] ta) (hg : Gl X "BadRatio" := by rfl)
    (he : starEach (a :: []) X.env = (false, eval a X.env) :: starEach [] X.env := by rfl) (hpl : (backTo pos (starEach [] X.env)).any (·.1) = false := by rfl) :
    PS X (.Raise (some (.Call (.Name "BadRatio" p) [a] [] pos)) none pos2) (tRaiseLow C W ta) := ps_raise hc tk (pmk_low T hr ha hg he hpl)
/-- low.by, low the exception that the suite holds (at a; its class cls, its dict d) -/
def tByLow (C : Addr) (a : Addr) (cls : Value) (d : Option Addr) (te : TE) : TE := fun σ H Q => te σ H fun x H1 => x = .ref a ∧ cls = .ref C ∧ ∃ (dd : Addr) (v : V), d = some dd ∧ H1 dd = some (.xd [(("what" : Str), v)]) ∧ Q v H1
theorem pe_byLow {a : Addr} {oe : Obj} {cls : Value} {d : Option Addr} {pn : List (Addr × Obj)} {e : Expr} {te : TE} {pos : Pos} (T : PySem.LowX.LowTxt X.K X.mg C fI) (hz : Zc cls d oe) (hf : ∃ vs, oe.data = .fields vs) (he : PE (X.suite a ((a, oe) :: pn)) e te)
    (hb : attributeBase e "what" X.env (eval e X.env) = eval e X.env := by rfl) :
    PE (X.suite a ((a, oe) :: pn)) (.Attribute e "what" pos) (tByLow C a cls d te) := by
  refine ⟨fun pins s σ H Q I h => ?_⟩
  refine attr_of hb (thn (he.run pins s σ H _ I h) fun u s1 hh => ?_)
  obtain ⟨x, H1, I1, rx, ex, ec, dd, v, ed, ea, q⟩ := hh
  subst ex
  obtain rfl : u = Value.ref a := rx
  subst ec
  subst ed
  obtain ⟨ha, _⟩ := I1.pin (a, oe) (List.mem_append_left _ List.mem_cons_self)
  obtain ⟨vs, hd⟩ := hf
  have hx : ObjOk X.prog X.w H1 s1.heap dd (.xd [(("what" : Str), v)]) := I1.hok dd _ ea
  obtain ⟨mA, hns, hr⟩ := hx
  obtain ⟨od, ho, hl⟩ := lookIn_ns hns
  have l : List.lookup ("what" : Str) [(("what" : Str), v)] = some v := by simp [List.lookup]
  obtain ⟨u, hu, ru⟩ := RelO.some_of (v := v) (o := mA "what") (by rw [← l]; exact hr "what")
  have J : PySem.W.InstAt s1.heap a oe C (some od) := ⟨ha, hz.1, by unfold PySem.W.notCls; rw [hd] <;> rfl, by rw [hz.2]; exact ho⟩
  exact HandSPX.exc_get I1.kIn J T.ga T.gg T.exC (PySem.W.findObj_own T.hdC T.noN rfl (by rw [hl, hu])) (handed_of ru) ⟨v, H1, I1.tok _, ru, q⟩
end
end L2
/-! plain arithmetic: ratios as the core's Rat, the greatest common divisor by steps -/
namespace K01M
theorem ediv_ofNat (a b : Nat) : ((a : Int) / (b : Int)) = ((a / b : Nat) : Int) := rfl
/-- the sum of two ratios in lowest terms, worked as the program does -/
theorem plus_math (q r : Rat) (g : Nat) (hg : g = q.den.gcd r.den) (total : Int) (ht : total = q.num * ((r.den : Int) / (g : Int)) + r.num * ((q.den : Int) / (g : Int))) (rest : Nat) (hr : rest = total.natAbs.gcd g) :
    total / (rest : Int) = (q + r).num ∧ ((q.den : Int) / (g : Int)) * ((r.den : Int) / (rest : Int)) = ((q + r).den : Int) := by
  have gpos : 0 < g := by rw [hg]; exact Nat.gcd_pos_of_pos_left _ q.den_pos
  have gd1 : g ∣ q.den := by rw [hg]; exact Nat.gcd_dvd_left _ _
  have gd2 : g ∣ r.den := by rw [hg]; exact Nat.gcd_dvd_right _ _
  have aux := Rat.add.aux q r (g := g) (ad := q.den / g) (bd := r.den / g) hg rfl rfl
  have e1 : total = q.num * ((r.den / g : Nat) : Int) + r.num * ((q.den / g : Nat) : Int) := ht
  have dn : q.den / g * r.den ≠ 0 := Nat.ne_of_gt (Nat.mul_pos (Nat.div_pos (Nat.le_of_dvd q.den_pos gd1) gpos) r.den_pos)
  have key : q + r = Rat.normalize total (q.den / g * r.den) dn := by
    rw [Rat.normalize_eq_mkRat, Rat.add_def']
    have m1 : q.num * (r.den : Int) + r.num * (q.den : Int) = (g : Int) * total := by
      rw [e1, Int.mul_add]
      have a1 : (r.den : Int) = (g : Int) * ((r.den / g : Nat) : Int) := by rw [← Int.natCast_mul, Nat.mul_div_cancel' gd2]
      have a2 : (q.den : Int) = (g : Int) * ((q.den / g : Nat) : Int) := by rw [← Int.natCast_mul, Nat.mul_div_cancel' gd1]
      rw [Int.mul_left_comm, Int.mul_left_comm (g : Int) r.num, ← a1, ← a2]
    have m2 : q.den * r.den = g * (q.den / g * r.den) := by rw [← Nat.mul_assoc, Nat.mul_div_cancel' gd1]
    rw [m1, m2, Rat.mkRat_mul_left (Nat.ne_of_gt gpos)]
  have hrest : rest = total.natAbs.gcd (q.den / g * r.den) := by rw [hr, e1]; exact aux
  have rg : rest ∣ g := by rw [hr]; exact Nat.gcd_dvd_right _ _
  have rr : rest ∣ r.den := Nat.dvd_trans rg gd2
  refine ⟨?_, ?_⟩
  · rw [key, Rat.num_normalize, ← hrest]
  · rw [key, Rat.den_normalize, ← hrest, ediv_ofNat, ediv_ofNat, ← Int.natCast_mul, Nat.mul_div_assoc _ rr]
theorem times_math (q r : Rat) (l k : Nat) (hl : l = q.num.natAbs.gcd r.den) (hk : k = r.num.natAbs.gcd q.den) :
    q.num / (l : Int) * (r.num / (k : Int)) = (q * r).num ∧ ((q.den : Int) / (k : Int)) * ((r.den : Int) / (l : Int)) = ((q * r).den : Int) := by
  have ld1 : (l : Int) ∣ q.num := by rw [hl]; exact Int.ofNat_dvd_left.mpr (Nat.gcd_dvd_left _ _)
  have kd1 : (k : Int) ∣ r.num := by rw [hk]; exact Int.ofNat_dvd_left.mpr (Nat.gcd_dvd_left _ _)
  have e : q * r = Rat.mul q r := rfl
  rw [e]
  subst hl hk
  unfold Rat.mul
  refine ⟨?_, ?_⟩
  · simp only [Int.divExact_eq_tdiv]
    rw [Int.tdiv_eq_ediv_of_dvd ld1, Int.tdiv_eq_ediv_of_dvd kd1]
  · simp only [Nat.divExact_eq_div]
    rw [ediv_ofNat, ediv_ofNat, ← Int.natCast_mul]
theorem fdiv_exact {a b : Int} (h : b ∣ a) : a.fdiv b = a / b := by
  exact Int.fdiv_eq_ediv_of_dvd h
/-- any whole numbers over one another -/
theorem make_math (t b : Int) (hb : b ≠ 0) (g : Nat) (hg : g = t.natAbs.gcd b.natAbs) (c : Int) (hc : c = if b < 0 then -(g : Int) else (g : Int)) :
    t.fdiv c = (Rat.divInt t b).num ∧ b.fdiv c = ((Rat.divInt t b).den : Int) := by
  have gpos : 0 < g := by rw [hg]; exact Nat.gcd_pos_of_pos_right _ (Int.natAbs_pos.mpr hb)
  have gt : (g : Int) ∣ t := by rw [hg]; exact Int.ofNat_dvd_left.mpr (Nat.gcd_dvd_left _ _)
  have gb : (g : Int) ∣ b := by rw [hg]; exact Int.ofNat_dvd_left.mpr (Nat.gcd_dvd_right _ _)
  have ge : b.gcd t = g := by rw [hg, Int.gcd_comm]; rfl
  rw [Rat.num_divInt, Rat.den_divInt, if_neg hb, ge]
  by_cases h : b < 0
  · rw [if_pos h] at hc
    rw [hc, fdiv_exact (Int.neg_dvd.mpr gt), fdiv_exact (Int.neg_dvd.mpr gb), Int.sign_eq_neg_one_of_neg h, Int.ediv_neg, Int.ediv_neg]
    refine ⟨by rw [Int.neg_one_mul, Int.neg_ediv_of_dvd gt], ?_⟩
    rw [← Int.neg_ediv_of_dvd gb]
    have : -b = (b.natAbs : Int) := by omega
    rw [this]; rfl
  · rw [if_neg h] at hc
    rw [hc, fdiv_exact gt, fdiv_exact gb, Int.sign_eq_one_of_pos (by omega), Int.one_mul]
    refine ⟨rfl, ?_⟩
    have : b = (b.natAbs : Int) := by omega
    rw [this]; rfl
theorem law_math (t b : Int) (hb : 0 < b) (g : Nat) (hg : g = t.natAbs.gcd b.natAbs) : t / (g : Int) = (Rat.divInt t b).num ∧ b / (g : Int) = ((Rat.divInt t b).den : Int) := by
  have ge : b.gcd t = g := by rw [hg, Int.gcd_comm]; rfl
  rw [Rat.num_divInt, Rat.den_divInt, if_neg (by omega), ge, Int.sign_eq_one_of_pos hb, Int.one_mul]
  refine ⟨rfl, ?_⟩
  have : b = (b.natAbs : Int) := by omega
  rw [this]; rfl
theorem minus_math (q r : Rat) : Rat.divInt (q.num * r.den - r.num * q.den) (q.den * r.den) = q + -r := by
  rw [← Rat.sub_eq_add_neg, Rat.sub_def', ← Int.natCast_mul, Rat.divInt_ofNat]
theorem plus_law (q r : Rat) : Rat.divInt (q.num * r.den + r.num * q.den) (q.den * r.den) = q + r := by
  rw [Rat.add_def', ← Int.natCast_mul, Rat.divInt_ofNat]
theorem times_law (q r : Rat) : Rat.divInt (q.num * r.num) (q.den * r.den) = q * r := by
  rw [Rat.mul_def', ← Int.natCast_mul, Rat.divInt_ofNat]
theorem over_law (q r : Rat) : Rat.divInt (q.num * r.den) (q.den * r.num) = q * r⁻¹ := by
  have e : q * r⁻¹ = Rat.divInt q.num q.den * Rat.divInt r.den r.num := by rw [Rat.num_divInt_den, Rat.inv_def]
  rw [e, Rat.divInt_mul_divInt]
theorem inv_pos (r : Rat) (h : 0 < r.num) : (r⁻¹).num = r.den ∧ ((r⁻¹).den : Int) = r.num := by
  rw [Rat.num_inv, Rat.den_inv, if_neg (by omega), Int.sign_eq_one_of_pos h, Int.one_mul]
  exact ⟨rfl, by omega⟩
theorem inv_neg (r : Rat) (h : r.num < 0) : (r⁻¹).num = -r.den ∧ ((r⁻¹).den : Int) = -r.num := by
  rw [Rat.num_inv, Rat.den_inv, if_neg (by omega), Int.sign_eq_neg_one_of_neg h, Int.neg_one_mul]
  exact ⟨rfl, by omega⟩
theorem gcd_self (q : Rat) : q.num.natAbs.gcd q.den = 1 := q.reduced
theorem rat_of (t b : Int) (hb : 0 < b) (h : t.natAbs.gcd b.natAbs = 1) : ∃ q : Rat, q.num = t ∧ (q.den : Int) = b :=
  ⟨⟨t, b.natAbs, by omega, h⟩, rfl, by show ((b.natAbs : Nat) : Int) = b; omega⟩
/-- one step of the law's own divisor -/
theorem part_step {x y : Nat} (h : 0 < y) : Nat.gcd y (x % y) = Nat.gcd x y := by
  rw [Nat.gcd_comm x y, Nat.gcd_rec y x, Nat.gcd_comm]
theorem part_small {x y m : Nat} (h0 : 0 < y) (h : y ≤ x) (hp : x * y < 2 ^ (m + 1)) : y * (x % y) < 2 ^ m := by
  have h1 : x % y < y := Nat.mod_lt _ h0
  have h2 : x = y * (x / y) + x % y := (Nat.div_add_mod x y).symm
  have h3 : 0 < x / y := Nat.div_pos h h0
  have h4 : y * 1 ≤ y * (x / y) := Nat.mul_le_mul_left y h3
  have h5 : 2 * (x % y) ≤ x := by omega
  have h6 : y * (2 * (x % y)) ≤ y * x := Nat.mul_le_mul_left y h5
  rw [Nat.mul_left_comm, Nat.mul_comm y x] at h6
  rw [Nat.pow_succ] at hp
  omega
theorem zero_of {x y : Nat} (h : y ≤ x) (hp : x * y < 2 ^ 0) : y = 0 := by
  rcases Nat.eq_zero_or_pos y with e | e
  · exact e
  · have : 1 * 1 ≤ x * y := Nat.mul_le_mul (by omega) e
    rw [Nat.pow_zero] at hp
    omega
end K01M
set_option Elab.async false
set_option linter.all false
set_option maxRecDepth 100000
set_option maxHeartbeats 4000000
namespace L2
theorem Same.seqT {K : PySem.W.Frag} {H H' : Hp} {a : PySem.Addr} {xs : List V} (e : Same H H') (h : SqT K H a xs) : SqT K H' a xs := by
  rcases h with (h | ⟨o, h⟩) | h
  · exact .inl (.inl (e _ _ h))
  · exact .inl (.inr ⟨o, e _ _ h⟩)
  · exact .inr h
end L2
namespace K01
open PySem L2
/-- a def with defaults -/
structure FnD (K : PySem.W.Frag) (mg : Str → Option Value) (x : Str) (st : Stmt) (ps : List Str) (dvs : List V) where
  f : Addr
  fd : FuncData
  F : FunD K x x (defArgs st) (defBody st) (defScope st) dvs [] f fd
  g : mg x = some (.ref f)
  b : ∀ j, j ≤ dvs.length → ∃ ds, Vals (dvs.drop j) ds ∧ Binds K fd ps ds
/-- what the top has written -/
structure Tx (K : PySem.W.Frag) (mg : Str → Option Value) extends TxA K mg where
  C : Addr
  fI : Addr
  low : PySem.LowX.LowTxt K mg C fI
  is_whole : FnD K mg "is_whole" sis_whole ["thing", "low", "high"] [.non, .non]
  is_ratio : Fn K mg "is_ratio" sis_ratio ["thing"]
  make_ratio : FnD K mg "make_ratio" smake_ratio ["top", "bottom"] [.int 1]
  plus : Fn K mg "plus" splus ["one", "other"]
  minus : Fn K mg "minus" sminus ["one", "other"]
  times : Fn K mg "times" stimes ["one", "other"]
  over : Fn K mg "over" sover ["one", "other"]
  compare : Fn K mg "compare" scompare ["one", "other"]
  sum_of : Fn K mg "sum_of" ssum_of ["ratios"]
  ratio_text : Fn K mg "ratio_text" sratio_text ["one"]
  law_part : Fn K mg "_law_part" s_law_part ["_law_one", "_law_other"]
  law_ratio : Fn K mg "_law_ratio" s_law_ratio ["_law_top", "_law_bottom"]
  law_plus : Fn K mg "_law_plus" s_law_plus ["_law_one", "_law_other"]
  law_times : Fn K mg "_law_times" s_law_times ["_law_one", "_law_other"]
  law_whole : Fn K mg "_law_whole" s_law_whole ["_law_thing", "_law_low", "_law_high"]
  law_truth : Fn K mg "_law_truth" s_law_truth ["_law_told", "_law_due_here"]
  law_int : Fn K mg "_law_int" s_law_int ["_law_thing"]
  law_big : Fn K mg "_law_big" s_law_big ["_law_hand_here"]
  law_signed : Fn K mg "_law_signed" s_law_signed ["_law_hand_here"]
  law_is_ratio : Fn K mg "_law_is_ratio" s_law_is_ratio ["_law_thing"]
  law_same_ratio : Fn K mg "_law_same_ratio" s_law_same_ratio ["_law_told", "_law_due_here"]
  law_make : Fn K mg "_law_make" s_law_make ["_law_top", "_law_bottom"]
  law_over : Fn K mg "_law_over" s_law_over ["_law_one", "_law_other"]
  law_number_or_odd : Fn K mg "_law_number_or_odd" s_law_number_or_odd ["_law_hand_here"]
  law_due : Fn K mg "_law_due" s_law_due ["_law_top", "_law_bottom"]
  law_pair_right : Fn K mg "_law_pair_right" s_law_pair_right ["_law_one", "_law_other"]
  law_things : Fn K mg "_law_things" s_law_things ["_law_hand_here"]
  range : mg "range" = none
  bool : mg "bool" = none
  tuple : mg "tuple" = none
  list : mg "list" = none
  str : mg "str" = none
  isinstance : mg "isinstance" = none
  ggcd : mg "gcd" = some (.builtin "math.gcd")
  glcm : mg "lcm" = some (.builtin "math.lcm")
  zO : Addr
  gZERO : mg "ZERO" = some (.ref zO)
  vZERO : SqT K (fun _ => none) zO [.int 0, .int 1]
  oO : Addr
  gONE : mg "ONE" = some (.ref oO)
  vONE : SqT K (fun _ => none) oO [.int 1, .int 1]
def RtV (K : PySem.W.Frag) (H : Hp) (v : V) (q : Rat) : Prop := ∃ p, v = .ref p ∧ SqT K H p [.int q.num, .int (q.den : Int)]
theorem RtV.same {K : PySem.W.Frag} {H H' : Hp} {v : V} {q : Rat} (h : RtV K H v q) (s : Same H H') : RtV K H' v q := by
  obtain ⟨p, e, h⟩ := h
  exact ⟨p, e, s.seqT h⟩
def Sz (n : Nat) (q : Rat) : Prop := q.num.natAbs < 2 ^ n ∧ q.den < 2 ^ n
def GiveRt (Q : VK) (H : Hp) (q : Rat) : Prop := ∀ (p : Addr) (H' : Hp), Same H H' → H p = none → H' p = some (.tup [.int q.num, .int (q.den : Int)]) → Q (.ref p) H'
def spPart : Sp := fun vs H Q _ => ∃ a b : Int, vs = [.int a, .int b] ∧ b.natAbs < 2 ^ 1990 ∧ Q (.int ((a.natAbs.gcd b.natAbs : Nat) : Int)) H
def spLRatio : Sp := fun vs H Q _ => ∃ t b : Int, vs = [.int t, .int b] ∧ b ≠ 0 ∧ b.natAbs < 2 ^ 1990 ∧ GiveRt Q H (Rat.divInt t b)
def sp2 (K : PySem.W.Frag) (f : Rat → Rat → Rat) : Sp := fun vs H Q _ => ∃ (v w : V) (q r : Rat), vs = [v, w] ∧ RtV K H v q ∧ RtV K H w r ∧ Sz 900 q ∧ Sz 900 r ∧ GiveRt Q H (f q r)
theorem pow_le {a b : Nat} (h : a ≤ b) : 2 ^ a ≤ 2 ^ b := Nat.pow_le_pow_right (by decide) h
theorem bd_of {n m k : Nat} (h : n < 2 ^ m) (l : m ≤ k) : n < 2 ^ k := Nat.lt_of_lt_of_le h (pow_le l)
section
variable {P : Program} {w : World} {K : PySem.W.Frag} {mg : Str → Option Value} {base : Heap}
theorem ok_part (T : Tx K mg) : FnOk P w K mg base CX0 1 T.law_part.f T.law_part.fd ["_law_one", "_law_other"] spPart := by
  refine T.law_part.F.ok sc_law_part (fun vs H Q E h => ?_) (fun cdv A outer s H vs Q E hr h => ?_)
  · obtain ⟨n, t, rfl, _⟩ := h
    rfl
  · obtain ⟨a, b, rfl, hb, k⟩ := h
    refine ⟨_, (pss_cons (ps_set (i := 0) sc_law_part.nd rfl (Or.inl rfl) (pe_callB call_abs (by rfl) T.abs (by decide +kernel) (pa_cons (pv 0) pa_nil)))
  (cut (ps_set (i := 1) sc_law_part.nd rfl (Or.inl rfl) (pe_callB call_abs (by rfl) T.abs (by decide +kernel) (pa_cons (pv 1) pa_nil)))
  (pss_cons (ps_for PassesOwn.never rfl (pi_range1 rfl T.range (pa_cons pe_int pa_nil)) (pg_name (i := 2) sc_law_part.nd rfl (Or.inl rfl))
  (pss_cons (ps_if (pt_cmpR op_eq (pv 1) pe_int (nomark _)) (pss_one ps_break) pss_nil)
  (pss_one (ps_par (i := 0) (j := 1) (by rfl) sc_law_part.nd rfl rfl (by decide) rfl rfl (pa_cons (pv 1) (pa_cons (pe_op op_mod (pe_callTy call_int1 (by rfl) T.int (by decide +kernel) (pa_cons (pv 0) pa_nil)) (pv 1)) pa_nil)) (by rfl)))))
  (pss_one (ps_ret (pv 0)))))), ?_⟩
    refine ⟨_, rfl, _, rfl, fun σ' H' => H' = H ∧ σ' = [some (.int (a.natAbs : Int)), some (.int (b.natAbs : Int)), none], ?_, ?_⟩
    · refine ⟨_, rfl, _, rfl, rfl, ?_⟩
      have e1 : (if a < 0 then -a else a) = (a.natAbs : Int) := by split <;> omega
      have e2 : (if b < 0 then -b else b) = (b.natAbs : Int) := by split <;> omega
      show [some (V.int (if a < 0 then -a else a)), some (V.int (if b < 0 then -b else b)), none] = _
      rw [e1, e2]
    rintro σ' H' ⟨rfl, rfl⟩
    refine ⟨4000, rfl, by decide, by decide, for_range (n := 4000) (fun i σ H2 => H2 = H' ∧ ∃ (x y : Nat) (v : Option V), σ = [some (.int (x : Int)), some (.int (y : Int)), v] ∧ Nat.gcd x y = a.natAbs.gcd b.natAbs ∧ (i = 0 ∧ y = b.natAbs ∨ 0 < i ∧ y ≤ x ∧ x * y < 2 ^ (4000 - i)))
      ⟨rfl, _, _, _, rfl, rfl, .inl ⟨rfl, rfl⟩⟩ ?_ ?_⟩
    · rintro i σ H2 hi ⟨rfl, x, y, v, rfl, hg, hp⟩
      refine ⟨_, rfl, rfl, _, rfl, ?_⟩
      refine ite2 (fun e => ?_) (fun e => ?_)
      · -- the rest is nought: x is the divisor
        have ey : (y : Int) = 0 := by have := of_decide_eq_true e; injection this
        have ey' : y = 0 := by omega
        subst ey'
        rw [Nat.gcd_zero_right] at hg
        refine ⟨_, rfl, ?_⟩
        rw [hg]
        exact k
      · have ey : ¬ y = 0 := by
          intro z
          apply e
          rw [z]
          exact decide_eq_true rfl
        have y0 : 0 < y := Nat.pos_of_ne_zero ey
        refine ⟨_, rfl, _, rfl, .inl ⟨_, rfl, _, rfl, _, _, rfl, rfl, by omega, ?_⟩⟩
        refine ⟨_, _, rfl, rfl, y, x % y, _, rfl, (K01M.part_step y0).trans hg, .inr ⟨by omega, Nat.le_of_lt (Nat.mod_lt _ y0), ?_⟩⟩
        rcases hp with ⟨rfl, rfl⟩ | ⟨h0, hyx, hp⟩
        · have h1 : x % b.natAbs < b.natAbs := Nat.mod_lt _ y0
          have h2 : b.natAbs * (x % b.natAbs) < 2 ^ 1990 * 2 ^ 1990 := Nat.mul_lt_mul'' hb (Nat.lt_trans h1 hb)
          rw [← Nat.pow_add] at h2
          exact bd_of h2 (by decide)
        · have e3 : 4000 - i = (4000 - (i + 1)) + 1 := by omega
          rw [e3] at hp
          exact K01M.part_small y0 hyx hp
    · rintro σ H2 ⟨rfl, x, y, v, rfl, hg, hp⟩
      rcases hp with ⟨h, _⟩ | ⟨_, hyx, hp⟩
      · omega
      · have ey := K01M.zero_of hyx hp
        subst ey
        rw [Nat.gcd_zero_right] at hg
        refine ⟨_, rfl, ?_⟩
        rw [hg]
        exact k
theorem ok_lratio (T : Tx K mg) : FnOk P w K mg base CX0 2 T.law_ratio.f T.law_ratio.fd ["_law_top", "_law_bottom"] spLRatio := by
  have Glaw_part : FnOk P w K mg base CX0 1 T.law_part.f T.law_part.fd ["_law_one", "_law_other"] spPart := ok_part T
  refine T.law_ratio.F.ok sc_law_ratio (fun vs H Q E h => ?_) (fun cdv A outer s H vs Q E hr h => ?_)
  · obtain ⟨n, t, rfl, _⟩ := h
    rfl
  · obtain ⟨t, b, rfl, b0, hb, k⟩ := h
    refine ⟨_, (cut (ps_if (pt_cmpR op_lt (pv 1) pe_int (nomark _)) (pss_cons (ps_set (i := 0) sc_law_ratio.nd rfl (Or.inl rfl) (pe_un un_neg (pv 0)))
  (pss_one (ps_set (i := 1) sc_law_ratio.nd rfl (Or.inl rfl) (pe_un un_neg (pv 1))))) pss_nil)
  (cut (ps_set (i := 2) sc_law_ratio.nd rfl (Or.inl rfl) (pe_call Glaw_part (hr.mono (by decide)) rfl T.law_part.g T.law_part.F.kp T.law_part.b .nil pass0 (pa_cons (pv 0) (pa_cons (pv 1) pa_nil))))
  (pss_one (ps_ret (pe_tup (pa_cons (pe_op op_fdivW (pv 0) (pv 2)) (pa_cons (pe_op op_fdivW (pv 1) (pv 2)) pa_nil))))))), ?_⟩
    refine ⟨fun σ' H' => H' = H ∧ ∃ t' b' : Int, σ' = [some (.int t'), some (.int b'), none] ∧ 0 < b' ∧ b'.natAbs = b.natAbs ∧ Rat.divInt t' b' = Rat.divInt t b, ?_, ?_⟩
    · refine ⟨_, rfl, _, _, rfl, rfl, _, rfl, ?_⟩
      refine ite2 (fun e => ?_) (fun e => ?_)
      · have e' := of_decide_eq_true e
        exact ⟨_, rfl, _, rfl, _, rfl, _, rfl, rfl, _, _, rfl, by omega, by omega, Rat.neg_divInt_neg t b⟩
      · have e' : ¬ b < 0 := fun z => e (decide_eq_true z)
        exact ⟨rfl, _, _, rfl, by omega, rfl, rfl⟩
    rintro σ' H' ⟨rfl, t', b', rfl, p', n', e'⟩
    refine ⟨fun σ' H2 => H2 = H' ∧ σ' = [some (.int t'), some (.int b'), some (.int ((t'.natAbs.gcd b'.natAbs : Nat) : Int))], ?_, ?_⟩
    · exact ⟨_, rfl, _, rfl, t', b', rfl, by rw [n']; exact hb, rfl, rfl⟩
    rintro σ' H2 ⟨rfl, rfl⟩
    have gp : 0 < t'.natAbs.gcd b'.natAbs := Nat.gcd_pos_of_pos_right _ (by omega)
    have gl : t'.natAbs.gcd b'.natAbs ≤ b'.natAbs := Nat.gcd_le_right _ (by omega)
    have gb : (((t'.natAbs.gcd b'.natAbs : Nat) : Int)).natAbs < 2 ^ 1990 := by
      show t'.natAbs.gcd b'.natAbs < 2 ^ 1990
      rw [← n'] at hb
      exact Nat.lt_of_le_of_lt gl hb
    have wd : ∀ i : Int, CDivW i ((t'.natAbs.gcd b'.natAbs : Nat) : Int) := fun i => wide_div (b := 1990) (by omega) gb (by decide) (by decide)
    obtain ⟨m1, m2⟩ := K01M.law_math t' b' p' _ rfl
    refine ⟨_, rfl, _, rfl, _, _, rfl, rfl, wd _, _, rfl, _, rfl, _, _, rfl, rfl, wd _, (by show 2 ≤ sizeLine; decide), fun p hp => ?_⟩
    refine k p _ (same_new hp) hp ?_
    rw [upd_same, ← e', ← m1, ← m2]
end
end K01
set_option Elab.async false
set_option linter.all false
set_option maxRecDepth 100000
set_option maxHeartbeats 4000000
set_option exponentiation.threshold 20000
namespace K01
open PySem L2
def CDivWN (i j : Int) : Prop := j ≠ 0 ∧ j.natAbs.log2 < 9000
def rLcm : List V → Hp → VK → Prop := fun vs H Q => ∃ a b : Int, vs = [.int a, .int b] ∧ a.natAbs < 2 ^ 9000 ∧ b.natAbs < 2 ^ 9000 ∧ Q (.int ((Nat.lcm a.natAbs b.natAbs : Nat) : Int)) H
theorem log_le {n k : Nat} (h : n < 2 ^ (k + 1)) : n.log2 ≤ k := PySem.W.mg_log h
section
variable {X : Cx}
theorem op_fdivWN : OpR X (binaryOp .FloorDiv) (rI CDivWN fun i j => .int (i.fdiv j)) := opI fun i j _ _ _ _ _ hc q => PyProof.Rows.floordiv_int hc.1 q (.inl (PyProof.noPylong_of_log2 hc.2))
/-- a list or a tuple walked -/
theorem pi_or {tg l : Expr} {w1 w2 : TI} (h1 : PI X tg l w1) (h2 : PI X tg l w2) : PI X tg l (fun σ H R => w1 σ H R ∨ w2 σ H R) := by
  refine ⟨fun pins s σ H R I h => ?_⟩
  rcases h with h | h
  · exact h1.run pins s σ H R I h
  · exact h2.run pins s σ H R I h
theorem cr_lcm : CallR X (.builtin "math.lcm") rLcm := by
  intro pins s σ H vs us Q I r h
  obtain ⟨a, b, rfl, ha, hb, q⟩ := h
  obtain ⟨t, u, rfl⟩ := Vals.int2 r
  have one : Nat.lcm 1 a.natAbs = a.natAbs := by simp [Nat.lcm]
  have le : a.natAbs.lcm b.natAbs ≤ a.natAbs * b.natAbs := by
    unfold Nat.lcm
    exact Nat.div_le_self _ _
  have h1 : (max 1 a.natAbs).log2 ≤ 8999 := log_le (by
    have : 1 < 2 ^ 9000 := Nat.one_lt_two_pow (by decide)
    show max 1 a.natAbs < 2 ^ 9000
    rcases Nat.le_total 1 a.natAbs with z | z
    · rw [Nat.max_eq_right z]; exact ha
    · rw [Nat.max_eq_left z]; exact this)
  have h2 : (max a.natAbs b.natAbs).log2 ≤ 8999 := log_le (by
    show max a.natAbs b.natAbs < 2 ^ 9000
    rcases Nat.le_total a.natAbs b.natAbs with z | z
    · rw [Nat.max_eq_right z]; exact hb
    · rw [Nat.max_eq_left z]; exact ha)
  have hs : ((((Nat.lcm 1 a.natAbs).lcm b.natAbs : Nat) : Int)).natAbs.log2 < bitsLine := by
    rw [one]
    have e : bitsLine = 134217728 := by decide
    have h3 : a.natAbs.lcm b.natAbs < 2 ^ 18000 := by
      refine Nat.lt_of_le_of_lt le ?_
      have z := Nat.mul_lt_mul'' ha hb
      rw [← Nat.pow_add] at z
      exact z
    have h4 : (a.natAbs.lcm b.natAbs).log2 ≤ 17999 := log_le h3
    show (a.natAbs.lcm b.natAbs).log2 < bitsLine
    rw [e]
    omega
  have g := PySem.W.mg_run_lcm a t b u (by omega) (by omega) hs
  rw [one] at g
  exact PySem.call_function_meets PySem.W.MGF.kind_lcm PySem.W.MGF.plain_lcm PySem.W.MGF.entry_lcm (PySem.W.MGF.args_lcm _ _) g.meets ⟨.int _, H, I.tok _, ⟨_, rfl⟩, q⟩
end
section
variable {P : Program} {w : World} {K : PySem.W.Frag} {mg : Str → Option Value} {base : Heap}
theorem ok_plus (T : Tx K mg) : FnOk P w K mg base CX0 1 T.plus.f T.plus.fd ["one", "other"] (sp2 K (· + ·)) := by
  refine T.plus.F.ok scplus (fun vs H Q E h => ?_) (fun cdv A outer s H vs Q E hr h => ?_)
  · obtain ⟨_, _, _, _, rfl, _⟩ := h
    rfl
  · obtain ⟨v, v', q, r, rfl, ⟨pq, rfl, S1⟩, ⟨pr, rfl, S2⟩, z1, z2, k⟩ := h
    refine ⟨_, (cut (ps_asg (pe_tup (pa_cons (pv 0) (pa_cons (pv 1) pa_nil))) (pg_tup (by rfl) (pgs_cons (pg_tup (by rfl) (pgs_cons (pg_name (i := 2) scplus.nd rfl (Or.inl rfl)) (pgs_cons (pg_name (i := 3) scplus.nd rfl (Or.inl rfl)) pgs_nil))) (pgs_cons (pg_tup (by rfl) (pgs_cons (pg_name (i := 4) scplus.nd rfl (Or.inl rfl)) (pgs_cons (pg_name (i := 5) scplus.nd rfl (Or.inl rfl)) pgs_nil))) pgs_nil))))
  (cut (ps_set (i := 6) scplus.nd rfl (Or.inl rfl) (pe_callBfun cr_gcd (by rfl) T.ggcd (pa_cons (pv 3) (pa_cons (pv 5) pa_nil))))
  (cut (ps_set (i := 7) scplus.nd rfl (Or.inl rfl) (pe_op op_add (pe_op op_mulW (pv 2) (pe_op op_fdivW (pv 5) (pv 6))) (pe_op op_mulW (pv 4) (pe_op op_fdivW (pv 3) (pv 6)))))
  (cut (ps_set (i := 8) scplus.nd rfl (Or.inl rfl) (pe_callBfun cr_gcd (by rfl) T.ggcd (pa_cons (pv 7) (pa_cons (pv 6) pa_nil))))
  (pss_one (ps_ret (pe_tup (pa_cons (pe_op op_fdivW (pv 7) (pv 8)) (pa_cons (pe_op op_mulW (pe_op op_fdivW (pv 3) (pv 6)) (pe_op op_fdivW (pv 5) (pv 8))) pa_nil))))))))), ?_⟩
    refine ⟨fun σ' H' => Same H H' ∧ σ' = [some (.ref pq), some (.ref pr), some (.int q.num), some (.int (q.den : Int)), some (.int r.num), some (.int (r.den : Int)), none, none, none], ?_, ?_⟩
    · exact ⟨_, rfl, _, rfl, (by show 2 ≤ sizeLine; decide), fun p hp => ⟨p, _, rfl, SqT.of upd_same, rfl, _, _, rfl, pq, _, rfl, (same_new hp).seqT S1, rfl, _, _, rfl, _, _, rfl, rfl, _, _, rfl, pr, _, rfl, (same_new hp).seqT S2, rfl, _, _, rfl, _, _, rfl, rfl, rfl, same_new hp, rfl⟩⟩
    rintro σ' H' ⟨s1, rfl⟩
    obtain ⟨g, hg⟩ : ∃ g : Nat, g = q.den.gcd r.den := ⟨_, rfl⟩
    have gp : 0 < g := by rw [hg]; exact Nat.gcd_pos_of_pos_left _ q.den_pos
    have gl : g < 2 ^ 900 := Nat.lt_of_le_of_lt (by rw [hg]; exact Nat.gcd_le_left _ q.den_pos) z1.2
    refine ⟨fun σ' H2 => H2 = H' ∧ σ' = [some (.ref pq), some (.ref pr), some (.int q.num), some (.int (q.den : Int)), some (.int r.num), some (.int (r.den : Int)), some (.int (g : Int)), none, none], ?_, ?_⟩
    · exact ⟨_, rfl, _, rfl, _, _, rfl, rfl, by rw [hg]; rfl⟩
    rintro σ' H2 ⟨rfl, rfl⟩
    have wd : ∀ i : Int, CDivW i (g : Int) := fun i => wide_div (b := 900) (by omega) gl (by decide) (by decide)
    have b1 : ((q.den : Int) / (g : Int)).natAbs < 2 ^ 900 := Nat.lt_of_le_of_lt (show q.den / g ≤ q.den from Nat.div_le_self _ _) z1.2
    have b2 : ((r.den : Int) / (g : Int)).natAbs < 2 ^ 900 := Nat.lt_of_le_of_lt (show r.den / g ≤ r.den from Nat.div_le_self _ _) z2.2
    have wm : ∀ {i j : Int}, i.natAbs < 2 ^ 900 → j.natAbs < 2 ^ 900 → CMulW i j := fun a b => wide_mul (a := 900) (b := 900) a b (by decide) (by decide) (by decide)
    obtain ⟨total, ht⟩ : ∃ t : Int, t = q.num * ((r.den : Int) / (g : Int)) + r.num * ((q.den : Int) / (g : Int)) := ⟨_, rfl⟩
    refine ⟨fun σ' H3 => H3 = H2 ∧ σ' = [some (.ref pq), some (.ref pr), some (.int q.num), some (.int (q.den : Int)), some (.int r.num), some (.int (r.den : Int)), some (.int (g : Int)), some (.int total), none], ?_, ?_⟩
    · exact ⟨_, rfl, _, rfl, _, rfl, _, _, rfl, rfl, wd _, _, _, rfl, rfl, wm z1.1 b2, _, rfl, _, rfl, _, rfl, _, _, rfl, rfl, wd _, _, _, rfl, rfl, wm z2.1 b1, _, _, rfl, rfl, rfl, by rw [ht]; rfl⟩
    rintro σ' H3 ⟨rfl, rfl⟩
    obtain ⟨rest, hrest⟩ : ∃ t : Nat, t = total.natAbs.gcd g := ⟨_, rfl⟩
    have rp : 0 < rest := by rw [hrest]; exact Nat.gcd_pos_of_pos_right _ gp
    have rl : rest < 2 ^ 900 := Nat.lt_of_le_of_lt (by rw [hrest]; exact Nat.gcd_le_right _ gp) gl
    refine ⟨fun σ' H4 => H4 = H3 ∧ σ' = [some (.ref pq), some (.ref pr), some (.int q.num), some (.int (q.den : Int)), some (.int r.num), some (.int (r.den : Int)), some (.int (g : Int)), some (.int total), some (.int (rest : Int))], ?_, ?_⟩
    · exact ⟨_, rfl, _, rfl, _, _, rfl, rfl, by rw [hrest]; rfl⟩
    rintro σ' H4 ⟨rfl, rfl⟩
    have wr : ∀ i : Int, CDivW i (rest : Int) := fun i => wide_div (b := 900) (by omega) rl (by decide) (by decide)
    have b3 : ((r.den : Int) / (rest : Int)).natAbs < 2 ^ 900 := Nat.lt_of_le_of_lt (show r.den / rest ≤ r.den from Nat.div_le_self _ _) z2.2
    obtain ⟨m1, m2⟩ := K01M.plus_math q r g hg total ht rest hrest
    refine ⟨_, rfl, _, rfl, _, _, rfl, rfl, wr _, _, rfl, _, rfl, _, _, rfl, rfl, wd _, _, rfl, _, rfl, _, _, rfl, rfl, wr _, _, _, rfl, rfl, wm b1 b3, (by show 2 ≤ sizeLine; decide), fun p hp => ?_⟩
    refine k p _ (s1.trans (same_new hp)) (s1.free hp) ?_
    rw [upd_same, ← m1, ← m2]
theorem ok_minus (T : Tx K mg) : FnOk P w K mg base CX0 2 T.minus.f T.minus.fd ["one", "other"] (sp2 K (fun q r => q + -r)) := by
  have Gplus : FnOk P w K mg base CX0 1 T.plus.f T.plus.fd ["one", "other"] (sp2 K (· + ·)) := ok_plus T
  refine T.minus.F.ok scminus (fun vs H Q E h => ?_) (fun cdv A outer s H vs Q E hr h => ?_)
  · obtain ⟨_, _, _, _, rfl, _⟩ := h
    rfl
  · obtain ⟨v, v', q, r, rfl, ⟨pq, rfl, S1⟩, ⟨pr, rfl, S2⟩, z1, z2, k⟩ := h
    refine ⟨_, (pss_one (ps_ret (pe_call Gplus (hr.mono (by decide)) rfl T.plus.g T.plus.F.kp T.plus.b .nil pass0 (pa_cons (pv 0) (pa_cons (pe_tup (pa_cons (pe_un un_neg (pe_ix ix_tup (pv 1) pe_int (fun _ _ => rfl))) (pa_cons (pe_ix ix_tup (pv 1) pe_int (fun _ _ => rfl)) pa_nil))) pa_nil))))), ?_⟩
    refine ⟨_, rfl, _, rfl, pr, _, 0, _, rfl, rfl, S2, atI_nat rfl, _, rfl, _, rfl, pr, _, 1, _, rfl, rfl, S2, atI_nat rfl, (by show 2 ≤ sizeLine; decide), fun t ht => ?_⟩
    refine ⟨_, _, q, -r, rfl, ⟨pq, rfl, (same_new ht).seqT S1⟩, ⟨t, rfl, SqT.of upd_same⟩, z1, ⟨by show (-r.num).natAbs < _; rw [Int.natAbs_neg]; exact z2.1, z2.2⟩, fun p H' s1 n1 e1 => ?_⟩
    exact k p H' ((same_new ht).trans s1) ((same_new ht).free n1) e1
theorem ok_times (T : Tx K mg) : FnOk P w K mg base CX0 1 T.times.f T.times.fd ["one", "other"] (sp2 K (· * ·)) := by
  refine T.times.F.ok sctimes (fun vs H Q E h => ?_) (fun cdv A outer s H vs Q E hr h => ?_)
  · obtain ⟨_, _, _, _, rfl, _⟩ := h
    rfl
  · obtain ⟨v, v', q, r, rfl, ⟨pq, rfl, S1⟩, ⟨pr, rfl, S2⟩, z1, z2, k⟩ := h
    refine ⟨_, (cut (ps_asg (pe_tup (pa_cons (pv 0) (pa_cons (pv 1) pa_nil))) (pg_tup (by rfl) (pgs_cons (pg_tup (by rfl) (pgs_cons (pg_name (i := 2) sctimes.nd rfl (Or.inl rfl)) (pgs_cons (pg_name (i := 3) sctimes.nd rfl (Or.inl rfl)) pgs_nil))) (pgs_cons (pg_tup (by rfl) (pgs_cons (pg_name (i := 4) sctimes.nd rfl (Or.inl rfl)) (pgs_cons (pg_name (i := 5) sctimes.nd rfl (Or.inl rfl)) pgs_nil))) pgs_nil))))
  (cut (ps_set (i := 6) sctimes.nd rfl (Or.inl rfl) (pe_callBfun cr_gcd (by rfl) T.ggcd (pa_cons (pv 2) (pa_cons (pv 5) pa_nil))))
  (cut (ps_set (i := 7) sctimes.nd rfl (Or.inl rfl) (pe_callBfun cr_gcd (by rfl) T.ggcd (pa_cons (pv 4) (pa_cons (pv 3) pa_nil))))
  (pss_one (ps_ret (pe_tup (pa_cons (pe_op op_mulW (pe_op op_fdivW (pv 2) (pv 6)) (pe_op op_fdivW (pv 4) (pv 7))) (pa_cons (pe_op op_mulW (pe_op op_fdivW (pv 3) (pv 7)) (pe_op op_fdivW (pv 5) (pv 6))) pa_nil)))))))), ?_⟩
    refine ⟨fun σ' H' => Same H H' ∧ σ' = [some (.ref pq), some (.ref pr), some (.int q.num), some (.int (q.den : Int)), some (.int r.num), some (.int (r.den : Int)), none, none], ?_, ?_⟩
    · exact ⟨_, rfl, _, rfl, (by show 2 ≤ sizeLine; decide), fun p hp => ⟨p, _, rfl, SqT.of upd_same, rfl, _, _, rfl, pq, _, rfl, (same_new hp).seqT S1, rfl, _, _, rfl, _, _, rfl, rfl, _, _, rfl, pr, _, rfl, (same_new hp).seqT S2, rfl, _, _, rfl, _, _, rfl, rfl, rfl, same_new hp, rfl⟩⟩
    rintro σ' H' ⟨s1, rfl⟩
    obtain ⟨l, hl⟩ : ∃ g : Nat, g = q.num.natAbs.gcd r.den := ⟨_, rfl⟩
    obtain ⟨m, hm⟩ : ∃ g : Nat, g = r.num.natAbs.gcd q.den := ⟨_, rfl⟩
    have lp : 0 < l := by rw [hl]; exact Nat.gcd_pos_of_pos_right _ r.den_pos
    have mp : 0 < m := by rw [hm]; exact Nat.gcd_pos_of_pos_right _ q.den_pos
    have ll : l < 2 ^ 900 := Nat.lt_of_le_of_lt (by rw [hl]; exact Nat.gcd_le_right _ r.den_pos) z2.2
    have ml : m < 2 ^ 900 := Nat.lt_of_le_of_lt (by rw [hm]; exact Nat.gcd_le_right _ q.den_pos) z1.2
    refine ⟨fun σ' H2 => H2 = H' ∧ σ' = [some (.ref pq), some (.ref pr), some (.int q.num), some (.int (q.den : Int)), some (.int r.num), some (.int (r.den : Int)), some (.int (l : Int)), none], ?_, ?_⟩
    · exact ⟨_, rfl, _, rfl, _, _, rfl, rfl, by rw [hl]; rfl⟩
    rintro σ' H2 ⟨rfl, rfl⟩
    refine ⟨fun σ' H3 => H3 = H2 ∧ σ' = [some (.ref pq), some (.ref pr), some (.int q.num), some (.int (q.den : Int)), some (.int r.num), some (.int (r.den : Int)), some (.int (l : Int)), some (.int (m : Int))], ?_, ?_⟩
    · exact ⟨_, rfl, _, rfl, _, _, rfl, rfl, by rw [hm]; rfl⟩
    rintro σ' H3 ⟨rfl, rfl⟩
    have wl : ∀ i : Int, CDivW i (l : Int) := fun i => wide_div (b := 900) (by omega) ll (by decide) (by decide)
    have wm' : ∀ i : Int, CDivW i (m : Int) := fun i => wide_div (b := 900) (by omega) ml (by decide) (by decide)
    have wm : ∀ {i j : Int}, i.natAbs < 2 ^ 900 → j.natAbs < 2 ^ 900 → CMulW i j := fun a b => wide_mul (a := 900) (b := 900) a b (by decide) (by decide) (by decide)
    have dl : ∀ (i : Int) (g : Nat), i.natAbs < 2 ^ 900 → 0 < g → (g : Int) ∣ i → (i / (g : Int)).natAbs < 2 ^ 900 := fun i g hi hg hd => by
      rw [Int.natAbs_ediv_of_dvd hd]
      exact Nat.lt_of_le_of_lt (Nat.div_le_self _ _) hi
    have d1 : (l : Int) ∣ q.num := by rw [hl]; exact Int.ofNat_dvd_left.mpr (Nat.gcd_dvd_left _ _)
    have d2 : (m : Int) ∣ r.num := by rw [hm]; exact Int.ofNat_dvd_left.mpr (Nat.gcd_dvd_left _ _)
    have b1 : ((q.den : Int) / (m : Int)).natAbs < 2 ^ 900 := Nat.lt_of_le_of_lt (show q.den / m ≤ q.den from Nat.div_le_self _ _) z1.2
    have b2 : ((r.den : Int) / (l : Int)).natAbs < 2 ^ 900 := Nat.lt_of_le_of_lt (show r.den / l ≤ r.den from Nat.div_le_self _ _) z2.2
    obtain ⟨m1, m2⟩ := K01M.times_math q r l m hl hm
    refine ⟨_, rfl, _, rfl, _, _, rfl, rfl, wl _, _, rfl, _, rfl, _, _, rfl, rfl, wm' _, _, _, rfl, rfl, wm (dl _ _ z1.1 lp d1) (dl _ _ z2.1 mp d2), _, rfl, _, rfl, _, _, rfl, rfl, wm' _, _, rfl, _, rfl, _, _, rfl, rfl, wl _, _, _, rfl, rfl, wm b1 b2, (by show 2 ≤ sizeLine; decide), fun p hp => ?_⟩
    refine k p _ (s1.trans (same_new hp)) (s1.free hp) ?_
    rw [upd_same, ← m1, ← m2]
end
end K01
set_option Elab.async false
set_option linter.all false
set_option maxRecDepth 100000
set_option maxHeartbeats 4000000
set_option exponentiation.threshold 20000
namespace K01
open PySem L2
/-! ### data and their kinds -/
def isI : PyData → Bool | .int _ => true | _ => false
def isIB : PyData → Bool | .int _ => true | .bool _ => true | _ => false
def isB : PyData → Bool | .bool _ => true | _ => false
def isT : PyData → Bool | .tuple _ => true | _ => false
theorem ty_of {K : PySem.W.Frag} {H : Hp} {v : V} {d : PyData} (h : Dp K H v d) : ∃ t, TyX K H v (.type t) ∧ kitB t "int" = some (isIB d) ∧ kitB t "bool" = some (isB d) ∧ kitB t "tuple" = some (isT d) := by
  cases h with
  | non => exact ⟨"NoneType", .base .non, by decide +kernel, by decide +kernel, by decide +kernel⟩
  | bl b => exact ⟨"bool", .base (.bl b), (show kitB "bool" "int" = some true by decide +kernel), (show kitB "bool" "bool" = some true by decide +kernel), (show kitB "bool" "tuple" = some false by decide +kernel)⟩
  | int i => exact ⟨"int", .base (.int i), (show kitB "int" "int" = some true by decide +kernel), (show kitB "int" "bool" = some false by decide +kernel), (show kitB "int" "tuple" = some false by decide +kernel)⟩
  | str x => exact ⟨"str", .base (.str x), (show kitB "str" "int" = some false by decide +kernel), (show kitB "str" "bool" = some false by decide +kernel), (show kitB "str" "tuple" = some false by decide +kernel)⟩
  | lst h _ =>
    refine ⟨"list", ?_, (show kitB "list" "int" = some false by decide +kernel), (show kitB "list" "bool" = some false by decide +kernel), (show kitB "list" "tuple" = some false by decide +kernel)⟩
    rcases h with (h | ⟨o, h⟩) | ⟨o, its, n, l, c, _⟩
    · exact .base (.lst h)
    · exact .base (.frz h)
    · exact .kList l c
  | tup h _ =>
    refine ⟨"tuple", ?_, (show kitB "tuple" "int" = some false by decide +kernel), (show kitB "tuple" "bool" = some false by decide +kernel), (show kitB "tuple" "tuple" = some true by decide +kernel)⟩
    rcases h with (h | ⟨o, h⟩) | ⟨o, its, n, l, c, _⟩
    · exact .base (.tup h)
    · exact .fTuple h
    · exact .kTuple l c
def optV : Option Int → V
  | none => .non
  | some i => .int i
def lowOk : Option Int → Int → Bool
  | none, _ => true
  | some l, i => decide (l ≤ i)
def highOk : Option Int → Int → Bool
  | none, _ => true
  | some h, i => decide (i ≤ h)
def isW (d : PyData) (low high : Option Int) : Bool := match d with
  | .int i => lowOk low i && highOk high i
  | _ => false
def ratD (q : Rat) : PyData := .tuple [.int q.num, .int (q.den : Int)]
theorem RtV.dp {K : PySem.W.Frag} {H : Hp} {v : V} {q : Rat} (h : RtV K H v q) : Dp K H v (ratD q) := by
  obtain ⟨p, rfl, h⟩ := h
  exact .tup h (.cons (.int _) (.cons (.int _) .nil))
def spWhole (K : PySem.W.Frag) : Sp := fun vs H Q _ => ∃ (v : V) (d : PyData) (low high : Option Int), vs = [v, optV low, optV high] ∧ Dp K H v d ∧ Q (.bl (isW d low high)) H
section
variable {P : Program} {w : World} {K : PySem.W.Frag} {mg : Str → Option Value} {base : Heap}
theorem ok_is_whole (T : Tx K mg) {CX : CXT} : FnOk P w K mg base CX 1 T.is_whole.f T.is_whole.fd ["thing", "low", "high"] (spWhole K) := by
  refine T.is_whole.F.ok scis_whole (fun vs H Q E h => ?_) (fun cdv A outer s H vs Q E hr h => ?_)
  · obtain ⟨_, _, _, _, rfl, _⟩ := h
    rfl
  · obtain ⟨v, d, low, high, rfl, hd, k⟩ := h
    obtain ⟨t, ty, k1, k2, _⟩ := ty_of hd
    refine ⟨_, (pss_cons (ps_if (PW.pt (pw_or (pt_not (pt_val (pe_callB call_isi (by rfl) T.isinstance (by decide +kernel) (pa_cons (pv 0) (pa_cons (pe_bltn (v := .ty "int") (by rfl) T.int (by decide +kernel) rfl) pa_nil))))) (pw_or1 (pt_val (pe_callB call_isi (by rfl) T.isinstance (by decide +kernel) (pa_cons (pv 0) (pa_cons (pe_bltn (v := .ty "bool") (by rfl) T.bool (by decide +kernel) rfl) pa_nil))))))) (pss_one (ps_ret pe_bl)) pss_nil)
  (pss_cons (ps_if (PW.pt (pw_and (pt_cmp (pc_notN (pv 1))) (pw_and1 (pt_cmpR op_lt (pv 0) (pv 1) (nomark _))))) (pss_one (ps_ret pe_bl)) pss_nil)
  (pss_one (ps_ret (pe_or (pe_cmp (pc_isN (pv 2)) rfl) (pe_one (pe_cmpR op_le (pv 0) (pv 2) (nomark _)))))))), ?_⟩
    refine ⟨_, rfl, _, _, _, _, _, rfl, .ty _, ty, kit_ty k1, _, rfl, ?_⟩
    cases e1 : isIB d with
    | false =>
      have e2 : isW d low high = false := by
        cases d <;> first | rfl | (cases e1)
      rw [e2] at k
      refine iteT (iteT ?_)
      exact k
    | true =>
      refine iteF ?_
      refine ⟨_, rfl, _, _, _, _, _, rfl, .ty _, ty, kit_ty k2, _, rfl, ?_⟩
      cases e2 : isB d with
      | true =>
        have e3 : isW d low high = false := by
          cases d <;> first | rfl | (cases e2)
        rw [e3] at k
        refine iteT ?_
        exact k
      | false =>
        refine iteF ?_
        obtain ⟨i, rfl⟩ : ∃ i, d = .int i := by
          cases d <;> first | exact ⟨_, rfl⟩ | exact Bool.noConfusion (show false = true from e1) | exact Bool.noConfusion (show true = false from e2)
        cases hd
        have k' : Q (.bl (lowOk low i && highOk high i)) H := k
        have last : ∀ Q' : VK, (∀ b, b = highOk high i → Q' (.bl b) H) → (tOrV (tIsN (tVar 2)) (tOp (rI0 fun i j => .bl (decide (i ≤ j))) (tVar 0) (tVar 2))) [some (.int i), some (optV low), some (optV high)] H Q' := by
          intro Q' q
          refine ⟨_, rfl, _, rfl, ?_⟩
          cases high with
          | none => exact iteT (q true rfl)
          | some hh => exact iteF ⟨_, rfl, _, rfl, _, _, rfl, rfl, q _ rfl⟩
        refine ⟨_, rfl, _, rfl, ?_⟩
        cases low with
        | none =>
          refine iteF (iteF ?_)
          exact last _ fun b e => by rw [e]; exact k'
        | some l =>
          refine iteT ?_
          refine ⟨_, rfl, _, rfl, _, _, rfl, rfl, _, rfl, ?_⟩
          refine ite2 (fun e => ?_) (fun e => ?_)
          · have e' : i < l := of_decide_eq_true e
            have e3 : lowOk (some l) i = false := decide_eq_false (by omega)
            rw [e3] at k'
            exact k'
          · have e' : ¬ i < l := fun z => e (decide_eq_true z)
            have e3 : lowOk (some l) i = true := decide_eq_true (by omega)
            rw [e3] at k'
            exact last _ fun b e => by rw [e]; exact k'
end
end K01
set_option Elab.async false
set_option linter.all false
set_option maxRecDepth 100000
set_option maxHeartbeats 4000000
set_option exponentiation.threshold 20000
namespace K01
open PySem L2
/-- what make_ratio and the law's own word say of two things -/
def dueD : PyData → PyData → PyData
  | .int t, .int b => if b = 0 then .str "bottom" else ratD (Rat.divInt t b)
  | .int _, _ => .str "bottom"
  | _, _ => .str "top"
def okB : PyData → Bool
  | .int b => decide (b ≠ 0)
  | _ => false
def smB : PyData → Prop
  | .int b => b.natAbs < 2 ^ 1990
  | _ => True
def spMake (K : PySem.W.Frag) (C : Addr) : Sp := fun vs H Q E => ∃ (v1 v2 : V) (d1 d2 : PyData), vs = [v1, v2] ∧ Dp K H v1 d1 ∧ Dp K H v2 d2 ∧
  (isI d1 = false → ∀ d, H d = none → E (.ref C) (some d) (upd H d (.xd [("what", .str "top")]))) ∧
  (isI d1 = true → okB d2 = false → ∀ d, H d = none → E (.ref C) (some d) (upd H d (.xd [("what", .str "bottom")]))) ∧
  (∀ t b, d1 = .int t → d2 = .int b → b ≠ 0 → b.natAbs < 2 ^ 1990 ∧ GiveRt Q H (Rat.divInt t b))
theorem isW_free {d : PyData} : isW d none none = isI d := by cases d <;> rfl
section
variable {P : Program} {w : World} {K : PySem.W.Frag} {mg : Str → Option Value} {base : Heap}
theorem ok_make (T : Tx K mg) : FnOk P w K mg base (L2.CX P w) 3 T.make_ratio.f T.make_ratio.fd ["top", "bottom"] (spMake K T.C) := by
  have Gis_whole : FnOk P w K mg base CX0 1 T.is_whole.f T.is_whole.fd ["thing", "low", "high"] (spWhole K) := ok_is_whole T
  obtain ⟨ds0, hv0, hb0⟩ := T.is_whole.b 0 (by decide)
  refine T.make_ratio.F.ok scmake_ratio (fun vs H Q E h => ?_) (fun cdv A outer s H vs Q E hr h => ?_)
  · obtain ⟨_, _, _, _, rfl, _⟩ := h
    rfl
  · obtain ⟨v1, v2, d1, d2, rfl, p1, p2, kT, kB, kR⟩ := h
    refine ⟨_, (pss_cons (ps_if (pt_not (pt_val (pe_call Gis_whole (hr.mono (by decide)) rfl T.is_whole.g T.is_whole.F.kp hb0 hv0 pass0 (pa_cons (pv 0) pa_nil)))) (pss_one (ps_raiseLow rfl T.low hr (takes_of rfl rfl rfl rfl) (by exact (pa_cons pe_str pa_nil)))) pss_nil)
  (cut (ps_if (PW.pt (pw_or (pt_not (pt_val (pe_call Gis_whole (hr.mono (by decide)) rfl T.is_whole.g T.is_whole.F.kp hb0 hv0 pass0 (pa_cons (pv 1) pa_nil)))) (pw_or1 (pt_cmpR op_eq (pv 1) pe_int (nomark _))))) (pss_one (ps_raiseLow rfl T.low hr (takes_of rfl rfl rfl rfl) (by exact (pa_cons pe_str pa_nil)))) pss_nil)
  (pss_cons (ps_set (i := 2) scmake_ratio.nd rfl (Or.inl rfl) (pe_callBfun cr_gcd (by rfl) T.ggcd (pa_cons (pv 0) (pa_cons (pv 1) pa_nil))))
  (cut (ps_if (pt_cmpR op_lt (pv 1) pe_int (nomark _)) (pss_one (ps_set (i := 2) scmake_ratio.nd rfl (Or.inl rfl) (pe_un un_neg (pv 2)))) pss_nil)
  (pss_one (ps_ret (pe_tup (pa_cons (pe_op op_fdivWN (pv 0) (pv 2)) (pa_cons (pe_op op_fdivWN (pv 1) (pv 2)) pa_nil))))))))), ?_⟩
    refine ⟨_, rfl, _, d1, none, none, rfl, p1, _, rfl, ?_⟩
    rw [isW_free]
    cases e1 : isI d1 with
    | false =>
      refine iteT ?_
      exact ⟨_, rfl, fun d hd => kT e1 d hd⟩
    | true =>
      refine iteF ?_
      obtain ⟨t, rfl⟩ : ∃ t, d1 = .int t := by
        cases d1 <;> first | exact ⟨_, rfl⟩ | exact Bool.noConfusion (show false = true from e1)
      cases p1
      refine ⟨fun σ' H' => H' = H ∧ ∃ b : Int, d2 = .int b ∧ b ≠ 0 ∧ σ' = [some (.int t), some (.int b), none], ?_, ?_⟩
      · refine ⟨_, rfl, _, d2, none, none, rfl, p2, _, rfl, ?_⟩
        rw [isW_free]
        cases e2 : isI d2 with
        | false =>
          have e3 : okB d2 = false := by
            cases d2 <;> first | rfl | exact Bool.noConfusion (show true = false from e2)
          refine iteT (iteT ?_)
          exact ⟨_, rfl, fun d hd => kB rfl e3 d hd⟩
        | true =>
          refine iteF ?_
          obtain ⟨b, rfl⟩ : ∃ t, d2 = .int t := by
            cases d2 <;> first | exact ⟨_, rfl⟩ | exact Bool.noConfusion (show false = true from e2)
          cases p2
          refine ⟨_, rfl, rfl, _, rfl, ?_⟩
          refine ite2 (fun e => ?_) (fun e => ?_)
          · have e' : b = 0 := by have := of_decide_eq_true e; injection this
            exact ⟨_, rfl, fun d hd => kB rfl (by rw [e']; rfl) d hd⟩
          · exact ⟨rfl, b, rfl, fun z => e (by rw [z]; exact decide_eq_true rfl), rfl⟩
      rintro σ' H' ⟨rfl, b, rfl, b0, rfl⟩
      obtain ⟨bb, kR⟩ := kR t b rfl rfl b0
      obtain ⟨g, hg⟩ : ∃ g : Nat, g = t.natAbs.gcd b.natAbs := ⟨_, rfl⟩
      have gp : 0 < g := by rw [hg]; exact Nat.gcd_pos_of_pos_right _ (Int.natAbs_pos.mpr b0)
      have gl : g < 2 ^ 1990 := Nat.lt_of_le_of_lt (by rw [hg]; exact Nat.gcd_le_right _ (Int.natAbs_pos.mpr b0)) bb
      have gl2 : g.log2 < 9000 := Nat.lt_of_le_of_lt (log_le (k := 1989) gl) (by decide)
      refine ⟨_, rfl, _, rfl, _, _, rfl, ?_⟩
      refine ⟨fun σ' H2 => H2 = H' ∧ ∃ c : Int, c = (if b < 0 then -(g : Int) else (g : Int)) ∧ σ' = [some (.int t), some (.int b), some (.int c)], ?_, ?_⟩
      · refine ⟨_, rfl, _, _, rfl, rfl, _, rfl, ?_⟩
        refine ite2 (fun e => ?_) (fun e => ?_)
        · have e' := of_decide_eq_true e
          exact ⟨_, rfl, _, rfl, rfl, _, by rw [if_pos e', hg], rfl⟩
        · have e' : ¬ b < 0 := fun z => e (decide_eq_true z)
          exact ⟨rfl, _, by rw [if_neg e', hg], rfl⟩
      rintro σ' H2 ⟨rfl, c, hc, rfl⟩
      obtain ⟨m1, m2⟩ := K01M.make_math t b b0 g hg c hc
      have wc : ∀ i : Int, CDivWN i c := fun i => by
        refine ⟨?_, ?_⟩
        · rw [hc]; split <;> omega
        · have : c.natAbs = g := by rw [hc]; split <;> omega
          rw [this]; exact gl2
      refine ⟨_, rfl, _, rfl, _, _, rfl, rfl, wc _, _, rfl, _, rfl, _, _, rfl, rfl, wc _, (by show 2 ≤ sizeLine; decide), fun p hp => ?_⟩
      refine kR p _ (same_new hp) hp ?_
      rw [upd_same, ← m1, ← m2]
def spOver (K : PySem.W.Frag) (C : Addr) : Sp := fun vs H Q E => ∃ (v w : V) (q r : Rat), vs = [v, w] ∧ RtV K H v q ∧ RtV K H w r ∧ Sz 900 q ∧ Sz 900 r ∧
  (r.num = 0 → ∀ d, H d = none → E (.ref C) (some d) (upd H d (.xd [("what", .str "zero")]))) ∧ (r.num ≠ 0 → GiveRt Q H (q * r⁻¹))
theorem ok_over (T : Tx K mg) : FnOk P w K mg base (L2.CX P w) 3 T.over.f T.over.fd ["one", "other"] (spOver K T.C) := by
  have Gtimes : FnOk P w K mg base CX0 1 T.times.f T.times.fd ["one", "other"] (sp2 K (· * ·)) := ok_times T
  refine T.over.F.okX scover (fun vs H Q E h => ?_) (fun cdv A outer s H vs Q E hr h => ?_)
  · obtain ⟨_, _, _, _, rfl, _⟩ := h
    rfl
  · obtain ⟨v, v', q, r, rfl, ⟨pq, rfl, S1⟩, ⟨pr, rfl, S2⟩, z1, z2, kZ, k⟩ := h
    refine ⟨_, (pss_cons (ps_asg (pv 1) (pg_tup (by rfl) (pgs_cons (pg_name (i := 2) scover.nd rfl (Or.inl rfl)) (pgs_cons (pg_name (i := 3) scover.nd rfl (Or.inl rfl)) pgs_nil))))
  (pss_cons (ps_if (pt_cmpR op_eq (pv 2) pe_int (nomark _)) (pss_one (ps_raiseLow rfl T.low hr (takes_of rfl rfl rfl rfl) (by exact (pa_cons pe_str pa_nil)))) pss_nil)
  (pss_cons (ps_if (pt_cmpR op_lt (pv 2) pe_int (nomark _)) (pss_one (ps_ret (pe_call Gtimes (hr.mono (by decide)) rfl T.times.g T.times.F.kp T.times.b .nil pass0 (pa_cons (pv 0) (pa_cons (pe_tup (pa_cons (pe_un un_neg (pv 3)) (pa_cons (pe_un un_neg (pv 2)) pa_nil))) pa_nil))))) pss_nil)
  (pss_one (ps_ret (pe_call Gtimes (hr.mono (by decide)) rfl T.times.g T.times.F.kp T.times.b .nil pass0 (pa_cons (pv 0) (pa_cons (pe_tup (pa_cons (pv 3) (pa_cons (pv 2) pa_nil))) pa_nil)))))))), ?_⟩
    refine ⟨_, rfl, pr, _, rfl, S2, rfl, _, _, rfl, _, _, rfl, rfl, ?_⟩
    refine ⟨_, rfl, rfl, _, rfl, ?_⟩
    refine ite2 (fun e => ?_) (fun e => ?_)
    · have e' : r.num = 0 := by have := of_decide_eq_true e; injection this
      exact ⟨_, rfl, fun d hd => kZ e' d hd⟩
    · have n0 : r.num ≠ 0 := fun z => e (by rw [z]; exact decide_eq_true rfl)
      have k := k n0
      have szi : ∀ x : Rat, x.num.natAbs = r.den → x.den = r.num.natAbs → Sz 900 x := fun x a b => ⟨by rw [a]; exact z2.2, by rw [b]; exact z2.1⟩
      refine ⟨_, rfl, _, _, rfl, rfl, _, rfl, ?_⟩
      refine ite2 (fun e => ?_) (fun e => ?_)
      · have e' : r.num < 0 := of_decide_eq_true e
        obtain ⟨m1, m2⟩ := K01M.inv_neg r e'
        refine ⟨_, rfl, _, rfl, _, rfl, _, rfl, _, rfl, (by show 2 ≤ sizeLine; decide), fun t ht => ?_⟩
        refine ⟨_, _, q, r⁻¹, rfl, ⟨pq, rfl, (same_new ht).seqT S1⟩, ⟨t, rfl, ?_⟩, z1, szi _ (by rw [m1]; omega) (by omega), fun p H' s1 n1 e1 => ?_⟩
        · rw [m1, m2]; exact SqT.of upd_same
        · exact k p H' ((same_new ht).trans s1) ((same_new ht).free n1) e1
      · have e' : 0 < r.num := by
          have : ¬ r.num < 0 := fun z => e (decide_eq_true z)
          omega
        obtain ⟨m1, m2⟩ := K01M.inv_pos r e'
        refine ⟨_, rfl, _, rfl, _, rfl, (by show 2 ≤ sizeLine; decide), fun t ht => ?_⟩
        refine ⟨_, _, q, r⁻¹, rfl, ⟨pq, rfl, (same_new ht).seqT S1⟩, ⟨t, rfl, ?_⟩, z1, szi _ (by rw [m1]; omega) (by omega), fun p H' s1 n1 e1 => ?_⟩
        · rw [m1, m2]; exact SqT.of upd_same
        · exact k p H' ((same_new ht).trans s1) ((same_new ht).free n1) e1
end
end K01
set_option Elab.async false
set_option linter.all false
set_option maxRecDepth 100000
set_option maxHeartbeats 4000000
set_option exponentiation.threshold 20000
namespace K01
open PySem L2
theorem sh_rat (q : Rat) : SeqAt.shaped (ratD q) = true := by
  unfold SeqAt.shaped ratD
  simp [PyData.canLay0, PyData.canLayAll0, PyData.depth, PyData.depthAll]
theorem ev_rat (q : Rat) : PyData.eqv (ratD q) (ratD q) = true := by
  unfold ratD
  simp [PyData.eqv, PyData.eqvAll]
def isRt : PyData → Bool
  | .tuple [.int t, .int b] => decide (0 < b) && decide (t.natAbs.gcd b.natAbs = 1)
  | _ => false
theorem isRt_rat (q : Rat) : isRt (ratD q) = true := by
  show (decide (0 < (q.den : Int)) && decide (q.num.natAbs.gcd q.den = 1)) = true
  rw [decide_eq_true (by have := q.den_pos; omega), decide_eq_true (by exact q.reduced)]
  rfl
def smR : PyData → Prop
  | .tuple [_, .int b] => b.natAbs < 2 ^ 1990
  | _ => True
def spInt (K : PySem.W.Frag) : Sp := fun vs H Q _ => ∃ (v : V) (d : PyData), vs = [v] ∧ Dp K H v d ∧ Q (.bl (isI d)) H
def spIsRt (K : PySem.W.Frag) : Sp := fun vs H Q _ => ∃ (v : V) (d : PyData), vs = [v] ∧ Dp K H v d ∧ smR d ∧ Q (.bl (isRt d)) H
def spSame (K : PySem.W.Frag) : Sp := fun vs H Q _ => ∃ (v w : V) (q : Rat), vs = [v, w] ∧ RtV K H v q ∧ RtV K H w q ∧ q.den < 2 ^ 1990 ∧ Q (.bl true) H
def spLWhole (K : PySem.W.Frag) : Sp := fun vs H Q _ => ∃ (v : V) (d : PyData) (l h : Int), vs = [v, .int l, .int h] ∧ Dp K H v d ∧ Q (.bl (isW d (some l) (some h))) H
def spTruth : Sp := fun vs H Q _ => ∃ b : Bool, vs = [.bl b, .bl b] ∧ Q (.bl true) H
theorem notI_of {d : PyData} : (isIB d && !isB d) = isI d := by cases d <;> rfl
section
variable {P : Program} {w : World} {K : PySem.W.Frag} {mg : Str → Option Value} {base : Heap}
theorem ok_law_plus (T : Tx K mg) : FnOk P w K mg base CX0 3 T.law_plus.f T.law_plus.fd ["_law_one", "_law_other"] (sp2 K (· + ·)) := by
  have Glaw_ratio : FnOk P w K mg base CX0 2 T.law_ratio.f T.law_ratio.fd ["_law_top", "_law_bottom"] spLRatio := ok_lratio T
  refine T.law_plus.F.ok sc_law_plus (fun vs H Q E h => ?_) (fun cdv A outer s H vs Q E hr h => ?_)
  · obtain ⟨_, _, _, _, rfl, _⟩ := h
    rfl
  · obtain ⟨v, v', q, r, rfl, ⟨pq, rfl, S1⟩, ⟨pr, rfl, S2⟩, z1, z2, k⟩ := h
    refine ⟨_, (pss_one (ps_ret (pe_call Glaw_ratio (hr.mono (by decide)) rfl T.law_ratio.g T.law_ratio.F.kp T.law_ratio.b .nil pass0 (pa_cons (pe_op op_add (pe_op op_mulW (pe_ix ix_tup (pv 0) pe_int (fun _ _ => rfl)) (pe_ix ix_tup (pv 1) pe_int (fun _ _ => rfl))) (pe_op op_mulW (pe_ix ix_tup (pv 1) pe_int (fun _ _ => rfl)) (pe_ix ix_tup (pv 0) pe_int (fun _ _ => rfl)))) (pa_cons (pe_op op_mulW (pe_ix ix_tup (pv 0) pe_int (fun _ _ => rfl)) (pe_ix ix_tup (pv 1) pe_int (fun _ _ => rfl))) pa_nil))))), ?_⟩
    have wm : ∀ {i j : Int}, i.natAbs < 2 ^ 900 → j.natAbs < 2 ^ 900 → CMulW i j := fun a b => wide_mul (a := 900) (b := 900) a b (by decide) (by decide) (by decide)
    have d1 : ((q.den : Int)).natAbs < 2 ^ 900 := z1.2
    have d2 : ((r.den : Int)).natAbs < 2 ^ 900 := z2.2
    refine ⟨_, rfl, pq, _, 0, _, rfl, rfl, S1, atI_nat rfl, _, rfl, pr, _, 1, _, rfl, rfl, S2, atI_nat rfl, _, _, rfl, rfl, wm z1.1 d2, _, rfl, pr, _, 0, _, rfl, rfl, S2, atI_nat rfl, _, rfl, pq, _, 1, _, rfl, rfl, S1, atI_nat rfl, _, _, rfl, rfl, wm z2.1 d1, _, _, rfl, rfl, ?_⟩
    refine ⟨_, rfl, pq, _, 1, _, rfl, rfl, S1, atI_nat rfl, _, rfl, pr, _, 1, _, rfl, rfl, S2, atI_nat rfl, _, _, rfl, rfl, wm d1 d2, ?_⟩
    refine ⟨_, _, rfl, ?_, ?_, ?_⟩
    · have h1 := q.den_pos; have h2 := r.den_pos
      have : 0 < q.den * r.den := Nat.mul_pos h1 h2
      intro z
      have z' : ((q.den * r.den : Nat) : Int) = 0 := z
      omega
    · have := wide_lt d1 d2
      exact bd_of this (by decide)
    · show GiveRt Q H (Rat.divInt (q.num * (r.den : Int) + r.num * (q.den : Int)) ((q.den : Int) * (r.den : Int)))
      rw [K01M.plus_law]
      exact k
theorem ok_law_times (T : Tx K mg) : FnOk P w K mg base CX0 3 T.law_times.f T.law_times.fd ["_law_one", "_law_other"] (sp2 K (· * ·)) := by
  have Glaw_ratio : FnOk P w K mg base CX0 2 T.law_ratio.f T.law_ratio.fd ["_law_top", "_law_bottom"] spLRatio := ok_lratio T
  refine T.law_times.F.ok sc_law_times (fun vs H Q E h => ?_) (fun cdv A outer s H vs Q E hr h => ?_)
  · obtain ⟨_, _, _, _, rfl, _⟩ := h
    rfl
  · obtain ⟨v, v', q, r, rfl, ⟨pq, rfl, S1⟩, ⟨pr, rfl, S2⟩, z1, z2, k⟩ := h
    refine ⟨_, (pss_one (ps_ret (pe_call Glaw_ratio (hr.mono (by decide)) rfl T.law_ratio.g T.law_ratio.F.kp T.law_ratio.b .nil pass0 (pa_cons (pe_op op_mulW (pe_ix ix_tup (pv 0) pe_int (fun _ _ => rfl)) (pe_ix ix_tup (pv 1) pe_int (fun _ _ => rfl))) (pa_cons (pe_op op_mulW (pe_ix ix_tup (pv 0) pe_int (fun _ _ => rfl)) (pe_ix ix_tup (pv 1) pe_int (fun _ _ => rfl))) pa_nil))))), ?_⟩
    have wm : ∀ {i j : Int}, i.natAbs < 2 ^ 900 → j.natAbs < 2 ^ 900 → CMulW i j := fun a b => wide_mul (a := 900) (b := 900) a b (by decide) (by decide) (by decide)
    have d1 : ((q.den : Int)).natAbs < 2 ^ 900 := z1.2
    have d2 : ((r.den : Int)).natAbs < 2 ^ 900 := z2.2
    refine ⟨_, rfl, pq, _, 0, _, rfl, rfl, S1, atI_nat rfl, _, rfl, pr, _, 0, _, rfl, rfl, S2, atI_nat rfl, _, _, rfl, rfl, wm z1.1 z2.1, ?_⟩
    refine ⟨_, rfl, pq, _, 1, _, rfl, rfl, S1, atI_nat rfl, _, rfl, pr, _, 1, _, rfl, rfl, S2, atI_nat rfl, _, _, rfl, rfl, wm d1 d2, ?_⟩
    refine ⟨_, _, rfl, ?_, ?_, ?_⟩
    · have h1 := q.den_pos; have h2 := r.den_pos
      have : 0 < q.den * r.den := Nat.mul_pos h1 h2
      intro z
      have z' : ((q.den * r.den : Nat) : Int) = 0 := z
      omega
    · have := wide_lt d1 d2
      exact bd_of this (by decide)
    · show GiveRt Q H (Rat.divInt (q.num * r.num) ((q.den : Int) * (r.den : Int)))
      rw [K01M.times_law]
      exact k
def sgn (q r : Rat) : Int := if q.num * r.den = r.num * q.den then 0 else if r.num * q.den < q.num * r.den then 1 else -1
def spCmp (K : PySem.W.Frag) : Sp := fun vs H Q _ => ∃ (v w : V) (q r : Rat), vs = [v, w] ∧ RtV K H v q ∧ RtV K H w r ∧ Sz 900 q ∧ Sz 900 r ∧ Q (.int (sgn q r)) H
theorem ok_compare (T : Tx K mg) : FnOk P w K mg base CX0 1 T.compare.f T.compare.fd ["one", "other"] (spCmp K) := by
  refine T.compare.F.ok sccompare (fun vs H Q E h => ?_) (fun cdv A outer s H vs Q E hr h => ?_)
  · obtain ⟨_, _, _, _, rfl, _⟩ := h
    rfl
  · obtain ⟨v, v', q, r, rfl, ⟨pq, rfl, S1⟩, ⟨pr, rfl, S2⟩, z1, z2, k⟩ := h
    refine ⟨_, (pss_cons (ps_set (i := 2) sccompare.nd rfl (Or.inl rfl) (pe_op op_mulW (pe_ix ix_tup (pv 0) pe_int (fun _ _ => rfl)) (pe_ix ix_tup (pv 1) pe_int (fun _ _ => rfl))))
  (pss_cons (ps_set (i := 3) sccompare.nd rfl (Or.inl rfl) (pe_op op_mulW (pe_ix ix_tup (pv 1) pe_int (fun _ _ => rfl)) (pe_ix ix_tup (pv 0) pe_int (fun _ _ => rfl))))
  (pss_cons (ps_if (pt_cmpR op_lt (pv 2) (pv 3) (nomark _)) (pss_one (ps_ret (pe_un un_neg pe_int))) pss_nil)
  (pss_one (ps_ret (pe_ifExp (pt_cmpR op_gt (pv 2) (pv 3) (nomark _)) pe_int pe_int)))))), ?_⟩
    have wm : ∀ {i j : Int}, i.natAbs < 2 ^ 900 → j.natAbs < 2 ^ 900 → CMulW i j := fun a b => wide_mul (a := 900) (b := 900) a b (by decide) (by decide) (by decide)
    have d1 : ((q.den : Int)).natAbs < 2 ^ 900 := z1.2
    have d2 : ((r.den : Int)).natAbs < 2 ^ 900 := z2.2
    refine ⟨_, rfl, pq, _, 0, _, rfl, rfl, S1, atI_nat rfl, _, rfl, pr, _, 1, _, rfl, rfl, S2, atI_nat rfl, _, _, rfl, rfl, wm z1.1 d2, _, rfl, pr, _, 0, _, rfl, rfl, S2, atI_nat rfl, _, rfl, pq, _, 1, _, rfl, rfl, S1, atI_nat rfl, _, _, rfl, rfl, wm z2.1 d1, ?_⟩
    refine ⟨_, rfl, _, rfl, _, _, rfl, rfl, _, rfl, ?_⟩
    unfold sgn at k
    refine ite2 (fun e => ?_) (fun e => ?_)
    · have e' : q.num * (r.den : Int) < r.num * (q.den : Int) := of_decide_eq_true e
      rw [if_neg (by omega), if_neg (by omega)] at k
      exact ⟨_, rfl, k⟩
    · have e' : ¬ q.num * (r.den : Int) < r.num * (q.den : Int) := fun z => e (decide_eq_true z)
      refine ⟨_, rfl, _, rfl, _, _, rfl, rfl, _, rfl, ?_⟩
      refine ite2 (fun e => ?_) (fun e => ?_)
      · have e2 : r.num * (q.den : Int) < q.num * (r.den : Int) := of_decide_eq_true e
        rw [if_neg (by omega), if_pos e2] at k
        exact k
      · have e2 : ¬ r.num * (q.den : Int) < q.num * (r.den : Int) := fun z => e (decide_eq_true z)
        rw [if_pos (by omega)] at k
        exact k
theorem ok_law_int (T : Tx K mg) : FnOk P w K mg base CX0 1 T.law_int.f T.law_int.fd ["_law_thing"] (spInt K) := by
  refine T.law_int.F.ok sc_law_int (fun vs H Q E h => ?_) (fun cdv A outer s H vs Q E hr h => ?_)
  · obtain ⟨_, _, rfl, _⟩ := h
    rfl
  · obtain ⟨v, d, rfl, hd, k⟩ := h
    obtain ⟨t, ty, k1, k2, _⟩ := ty_of hd
    refine ⟨_, (pss_one (ps_ret (pe_and (pe_callB call_isi (by rfl) T.isinstance (by decide +kernel) (pa_cons (pv 0) (pa_cons (pe_bltn (v := .ty "int") (by rfl) T.int (by decide +kernel) rfl) pa_nil))) (pe_one (pe_not (pe_callB call_isi (by rfl) T.isinstance (by decide +kernel) (pa_cons (pv 0) (pa_cons (pe_bltn (v := .ty "bool") (by rfl) T.bool (by decide +kernel) rfl) pa_nil)))))))), ?_⟩
    rw [← notI_of] at k
    refine ⟨_, rfl, _, _, _, _, _, rfl, .ty _, ty, kit_ty k1, _, rfl, ?_⟩
    cases e1 : isIB d with
    | false =>
      rw [e1] at k
      exact iteF k
    | true =>
      rw [e1] at k
      exact iteT ⟨_, rfl, _, _, _, _, _, rfl, .ty _, ty, kit_ty k2, _, rfl, k⟩
theorem ok_law_whole (T : Tx K mg) : FnOk P w K mg base CX0 1 T.law_whole.f T.law_whole.fd ["_law_thing", "_law_low", "_law_high"] (spLWhole K) := by
  refine T.law_whole.F.ok sc_law_whole (fun vs H Q E h => ?_) (fun cdv A outer s H vs Q E hr h => ?_)
  · obtain ⟨_, _, _, _, rfl, _⟩ := h
    rfl
  · obtain ⟨v, d, l, hi, rfl, hd, k⟩ := h
    obtain ⟨t, ty, k1, k2, _⟩ := ty_of hd
    refine ⟨_, (pss_one (ps_ret (pe_and (pe_callB call_isi (by rfl) T.isinstance (by decide +kernel) (pa_cons (pv 0) (pa_cons (pe_bltn (v := .ty "int") (by rfl) T.int (by decide +kernel) rfl) pa_nil))) (pe_and (pe_not (pe_callB call_isi (by rfl) T.isinstance (by decide +kernel) (pa_cons (pv 0) (pa_cons (pe_bltn (v := .ty "bool") (by rfl) T.bool (by decide +kernel) rfl) pa_nil)))) (pe_one (pe_chain op_le op_le (pv 1) (pv 0) (pv 2))))))), ?_⟩
    refine ⟨_, rfl, _, _, _, _, _, rfl, .ty _, ty, kit_ty k1, _, rfl, ?_⟩
    cases e1 : isIB d with
    | false =>
      have e2 : isW d (some l) (some hi) = false := by
        cases d <;> first | rfl | exact Bool.noConfusion (show true = false from e1)
      rw [e2] at k
      exact iteF k
    | true =>
      refine iteT ⟨_, rfl, _, _, _, _, _, rfl, .ty _, ty, kit_ty k2, _, rfl, _, rfl, ?_⟩
      cases e2 : isB d with
      | true =>
        have e2 : isW d (some l) (some hi) = false := by
          cases d <;> first | rfl | exact Bool.noConfusion (show false = true from e2)
        rw [e2] at k
        exact iteF k
      | false =>
        obtain ⟨i, rfl⟩ : ∃ i, d = .int i := by
          cases d <;> first | exact ⟨_, rfl⟩ | exact Bool.noConfusion (show false = true from e1) | exact Bool.noConfusion (show true = false from e2)
        cases hd
        have k' : Q (.bl (decide (l ≤ i) && decide (i ≤ hi))) H := k
        refine iteT ⟨_, rfl, _, rfl, _, _, rfl, rfl, _, rfl, ?_⟩
        refine ite2 (fun e => ?_) (fun e => ?_)
        · rw [e] at k'
          exact ⟨_, rfl, _, _, rfl, rfl, k'⟩
        · have e' : decide (l ≤ i) = false := by
            cases h : decide (l ≤ i) with
            | false => rfl
            | true => exact absurd h e
          rw [e'] at k'
          exact k'
theorem ok_law_truth (T : Tx K mg) : FnOk P w K mg base CX0 1 T.law_truth.f T.law_truth.fd ["_law_told", "_law_due_here"] spTruth := by
  refine T.law_truth.F.ok sc_law_truth (fun vs H Q E h => ?_) (fun cdv A outer s H vs Q E hr h => ?_)
  · obtain ⟨_, rfl, _⟩ := h
    rfl
  · obtain ⟨b, rfl, k⟩ := h
    refine ⟨_, (pss_one (ps_ret (pe_and (pe_callB call_isi (by rfl) T.isinstance (by decide +kernel) (pa_cons (pv 0) (pa_cons (pe_bltn (v := .ty "bool") (by rfl) T.bool (by decide +kernel) rfl) pa_nil))) (pe_one (pe_cmpR op_eq (pv 0) (pv 1) (nomark _)))))), ?_⟩
    refine ⟨_, rfl, _, _, _, _, true, rfl, .ty _, .base (.bl b), kit_ty (show kitB "bool" "bool" = some true by decide +kernel), _, rfl, ?_⟩
    refine iteT ⟨_, rfl, _, rfl, rfl, ?_⟩
    show Q (.bl (decide (V.bl b = V.bl b))) H
    rw [decide_eq_true rfl]
    exact k
end
end K01
set_option Elab.async false
set_option linter.all false
set_option maxRecDepth 100000
set_option maxHeartbeats 4000000
set_option exponentiation.threshold 20000
namespace K01
open PySem L2
theorem dpall_len {K : PySem.W.Frag} {H : Hp} : ∀ {xs : List V} {ds : List PyData}, DpAll K H xs ds → xs.length = ds.length
  | _, _, .nil => rfl
  | _, _, .cons _ t => congrArg Nat.succ (dpall_len t)
section
variable {P : Program} {w : World} {K : PySem.W.Frag} {mg : Str → Option Value} {base : Heap}
theorem ok_law_is_ratio (T : Tx K mg) : FnOk P w K mg base CX0 2 T.law_is_ratio.f T.law_is_ratio.fd ["_law_thing"] (spIsRt K) := by
  have Glaw_int : FnOk P w K mg base CX0 1 T.law_int.f T.law_int.fd ["_law_thing"] (spInt K) := ok_law_int T
  have Glaw_part : FnOk P w K mg base CX0 1 T.law_part.f T.law_part.fd ["_law_one", "_law_other"] spPart := ok_part T
  refine T.law_is_ratio.F.ok sc_law_is_ratio (fun vs H Q E h => ?_) (fun cdv A outer s H vs Q E hr h => ?_)
  · obtain ⟨_, _, rfl, _⟩ := h
    rfl
  · obtain ⟨v, d, rfl, hd, sm, k⟩ := h
    obtain ⟨t, ty, _, _, k3⟩ := ty_of hd
    refine ⟨_, (pss_cons (ps_if (PW.pt (pw_or (pt_not (pt_val (pe_callB call_isi (by rfl) T.isinstance (by decide +kernel) (pa_cons (pv 0) (pa_cons (pe_bltn (v := .ty "tuple") (by rfl) T.tuple (by decide +kernel) rfl) pa_nil))))) (pw_or (pt_cmpR op_ne (pe_callB call_len_seq (by rfl) T.len PySem.boot_len (pa_cons (pv 0) pa_nil)) pe_int (nomark _)) (pw_or (pt_not (pt_val (pe_call Glaw_int (hr.mono (by decide)) rfl T.law_int.g T.law_int.F.kp T.law_int.b .nil pass0 (pa_cons (pe_ix ix_tup (pv 0) pe_int (fun _ _ => rfl)) pa_nil)))) (pw_or1 (pt_not (pt_val (pe_call Glaw_int (hr.mono (by decide)) rfl T.law_int.g T.law_int.F.kp T.law_int.b .nil pass0 (pa_cons (pe_ix ix_tup (pv 0) pe_int (fun _ _ => rfl)) pa_nil))))))))) (pss_one (ps_ret pe_bl)) pss_nil)
  (pss_one (ps_ret (pe_and (pe_cmpR op_gt (pe_ix ix_tup (pv 0) pe_int (fun _ _ => rfl)) pe_int (nomark _)) (pe_one (pe_cmpR op_eq (pe_call Glaw_part (hr.mono (by decide)) rfl T.law_part.g T.law_part.F.kp T.law_part.b .nil pass0 (pa_cons (pe_ix ix_tup (pv 0) pe_int (fun _ _ => rfl)) (pa_cons (pe_ix ix_tup (pv 0) pe_int (fun _ _ => rfl)) pa_nil))) pe_int (nomark _))))))), ?_⟩
    refine ⟨_, rfl, _, _, _, _, _, rfl, .ty _, ty, kit_ty k3, _, rfl, ?_⟩
    cases e1 : isT d with
    | false =>
      have e2 : isRt d = false := by
        cases d <;> first | rfl | exact Bool.noConfusion (show true = false from e1)
      rw [e2] at k
      exact iteT (iteT k)
    | true =>
      obtain ⟨ds, rfl⟩ : ∃ ds, d = .tuple ds := by
        cases d <;> first | exact ⟨_, rfl⟩ | exact Bool.noConfusion (show false = true from e1)
      cases hd with
      | tup S all =>
        rename_i p xs
        refine iteF ⟨_, rfl, p, xs, rfl, .inr S, rfl, _, rfl, ?_⟩
        refine ite2 (fun e => ?_) (fun e => ?_)
        · -- not two
          have n2 : ds.length ≠ 2 := by
            intro z
            rw [dpall_len all, z] at e
            exact absurd e (by decide)
          have e2 : isRt (.tuple ds) = false := by
            match ds, n2 with
            | [], _ => rfl
            | [_], _ => cases ‹PyData› <;> rfl
            | [_, _], h => exact absurd rfl h
            | a :: b :: c :: r, _ => cases a <;> first | rfl | (cases b <;> rfl)
          rw [e2] at k
          exact iteT k
        · have n2 : ds.length = 2 := by
            rw [dpall_len all] at e
            have e' : ¬ (!decide (V.int (ds.length : Int) = V.int 2)) = true := e
            by_cases z : ds.length = 2
            · exact z
            · exfalso
              apply e'
              rw [decide_eq_false]
              · rfl
              · intro q
                injection q with q
                omega
          obtain ⟨d1, d2, rfl⟩ : ∃ d1 d2, ds = [d1, d2] := by
            match ds, n2 with
            | [a, b], _ => exact ⟨a, b, rfl⟩
          obtain ⟨x1, x2, rfl, p1, p2⟩ : ∃ x1 x2, xs = [x1, x2] ∧ Dp K H x1 d1 ∧ Dp K H x2 d2 := by
            cases all with
            | cons a t =>
              cases t with
              | cons b t2 =>
                cases t2
                exact ⟨_, _, rfl, a, b⟩
          refine ⟨_, rfl, p, _, 0, _, rfl, rfl, S, atI_nat rfl, _, d1, rfl, p1, _, rfl, ?_⟩
          cases i1 : isI d1 with
          | false =>
            have e2 : isRt (.tuple [d1, d2]) = false := by
              cases d1 <;> first | rfl | exact Bool.noConfusion (show true = false from i1)
            rw [e2] at k
            exact iteT (iteT k)
          | true =>
            refine iteF ⟨_, rfl, p, _, 1, _, rfl, rfl, S, atI_nat rfl, _, d2, rfl, p2, _, rfl, ?_⟩
            obtain ⟨a, rfl⟩ : ∃ t, d1 = .int t := by
              cases d1 <;> first | exact ⟨_, rfl⟩ | exact Bool.noConfusion (show false = true from i1)
            cases i2 : isI d2 with
            | false =>
              have e2 : isRt (.tuple [.int a, d2]) = false := by
                cases d2 <;> first | rfl | exact Bool.noConfusion (show true = false from i2)
              rw [e2] at k
              exact iteT k
            | true =>
              obtain ⟨b, rfl⟩ : ∃ t, d2 = .int t := by
                cases d2 <;> first | exact ⟨_, rfl⟩ | exact Bool.noConfusion (show false = true from i2)
              cases p1
              cases p2
              have k' : Q (.bl (decide (0 < b) && decide (a.natAbs.gcd b.natAbs = 1))) H := k
              refine iteF ⟨_, rfl, p, _, 1, _, rfl, rfl, S, atI_nat rfl, _, _, rfl, rfl, _, rfl, ?_⟩
              refine ite2 (fun e => ?_) (fun e => ?_)
              · have e' : decide (0 < b) = true := e
                rw [e'] at k'
                refine ⟨_, rfl, p, _, 0, _, rfl, rfl, S, atI_nat rfl, _, rfl, p, _, 1, _, rfl, rfl, S, atI_nat rfl, a, b, rfl, sm, rfl, ?_⟩
                have e3 : decide (V.int ((a.natAbs.gcd b.natAbs : Nat) : Int) = V.int 1) = decide (a.natAbs.gcd b.natAbs = 1) := by
                  apply decide_eq_decide.mpr
                  constructor
                  · intro q; injection q with q; omega
                  · intro q; rw [q]; rfl
                show Q (.bl (decide (V.int ((a.natAbs.gcd b.natAbs : Nat) : Int) = V.int 1))) H
                rw [e3]
                exact k'
              · have e' : decide (0 < b) = false := by
                  cases h : decide (0 < b) with
                  | false => rfl
                  | true => exact absurd h e
                rw [e'] at k'
                exact k'
theorem ok_is_ratio (T : Tx K mg) : FnOk P w K mg base CX0 2 T.is_ratio.f T.is_ratio.fd ["thing"] (spIsRt K) := by
  have Gis_whole : FnOk P w K mg base CX0 1 T.is_whole.f T.is_whole.fd ["thing", "low", "high"] (spWhole K) := ok_is_whole T
  obtain ⟨ds0, hv0, hb0⟩ := T.is_whole.b 0 (by decide)
  obtain ⟨ds1, hv1, hb1⟩ := T.is_whole.b 1 (by decide)
  refine T.is_ratio.F.ok scis_ratio (fun vs H Q E h => ?_) (fun cdv A outer s H vs Q E hr h => ?_)
  · obtain ⟨_, _, rfl, _⟩ := h
    rfl
  · obtain ⟨v, d, rfl, hd, sm, k⟩ := h
    obtain ⟨t, ty, _, _, k3⟩ := ty_of hd
    refine ⟨_, (pss_cons (ps_if (PW.pt (pw_or (pt_not (pt_val (pe_callB call_isi (by rfl) T.isinstance (by decide +kernel) (pa_cons (pv 0) (pa_cons (pe_bltn (v := .ty "tuple") (by rfl) T.tuple (by decide +kernel) rfl) pa_nil))))) (pw_or1 (pt_cmpR op_ne (pe_callB call_len_seq (by rfl) T.len PySem.boot_len (pa_cons (pv 0) pa_nil)) pe_int (nomark _))))) (pss_one (ps_ret pe_bl)) pss_nil)
  (pss_cons (ps_asg (pv 0) (pg_tup (by rfl) (pgs_cons (pg_name (i := 1) scis_ratio.nd rfl (Or.inl rfl)) (pgs_cons (pg_name (i := 2) scis_ratio.nd rfl (Or.inl rfl)) pgs_nil))))
  (pss_one (ps_ret (pe_and (pe_call Gis_whole (hr.mono (by decide)) rfl T.is_whole.g T.is_whole.F.kp hb0 hv0 pass0 (pa_cons (pv 1) pa_nil)) (pe_and (pe_call Gis_whole (hr.mono (by decide)) rfl T.is_whole.g T.is_whole.F.kp hb1 hv1 pass0 (pa_cons (pv 2) (pa_cons pe_int pa_nil))) (pe_one (pe_cmpR op_eq (pe_callBfun cr_gcd (by rfl) T.ggcd (pa_cons (pv 1) (pa_cons (pv 2) pa_nil))) pe_int (nomark _))))))))), ?_⟩
    refine ⟨_, rfl, _, _, _, _, _, rfl, .ty _, ty, kit_ty k3, _, rfl, ?_⟩
    cases e1 : isT d with
    | false =>
      have e2 : isRt d = false := by
        cases d <;> first | rfl | exact Bool.noConfusion (show true = false from e1)
      rw [e2] at k
      exact iteT (iteT k)
    | true =>
      obtain ⟨ds, rfl⟩ : ∃ ds, d = .tuple ds := by
        cases d <;> first | exact ⟨_, rfl⟩ | exact Bool.noConfusion (show false = true from e1)
      cases hd with
      | tup S all =>
        rename_i p xs
        refine iteF ⟨_, rfl, p, xs, rfl, .inr S, rfl, _, rfl, ?_⟩
        refine ite2 (fun e => ?_) (fun e => ?_)
        · have n2 : ds.length ≠ 2 := by
            intro z
            rw [dpall_len all, z] at e
            exact absurd e (by decide)
          have e2 : isRt (.tuple ds) = false := by
            match ds, n2 with
            | [], _ => rfl
            | [_], _ => cases ‹PyData› <;> rfl
            | [_, _], h => exact absurd rfl h
            | a :: b :: c :: r, _ => cases a <;> first | rfl | (cases b <;> rfl)
          rw [e2] at k
          exact k
        · have n2 : ds.length = 2 := by
            rw [dpall_len all] at e
            have e' : ¬ (!decide (V.int (ds.length : Int) = V.int 2)) = true := e
            by_cases z : ds.length = 2
            · exact z
            · exfalso
              apply e'
              rw [decide_eq_false]
              · rfl
              · intro q
                injection q with q
                omega
          obtain ⟨d1, d2, rfl⟩ : ∃ d1 d2, ds = [d1, d2] := by
            match ds, n2 with
            | [a, b], _ => exact ⟨a, b, rfl⟩
          obtain ⟨x1, x2, rfl, p1, p2⟩ : ∃ x1 x2, xs = [x1, x2] ∧ Dp K H x1 d1 ∧ Dp K H x2 d2 := by
            cases all with
            | cons a t =>
              cases t with
              | cons b t2 =>
                cases t2
                exact ⟨_, _, rfl, a, b⟩
          refine ⟨_, rfl, p, _, rfl, S, rfl, _, _, rfl, _, _, rfl, rfl, ?_⟩
          refine ⟨_, rfl, x1, d1, none, none, rfl, p1, _, rfl, ?_⟩
          rw [isW_free]
          cases i1 : isI d1 with
          | false =>
            have e2 : isRt (.tuple [d1, d2]) = false := by
              cases d1 <;> first | rfl | exact Bool.noConfusion (show true = false from i1)
            rw [e2] at k
            exact iteF k
          | true =>
            obtain ⟨a, rfl⟩ : ∃ t, d1 = .int t := by
              cases d1 <;> first | exact ⟨_, rfl⟩ | exact Bool.noConfusion (show false = true from i1)
            refine iteT ⟨_, rfl, x2, d2, some 1, none, rfl, p2, _, rfl, ?_⟩
            cases i2 : isI d2 with
            | false =>
              have e2 : isRt (.tuple [.int a, d2]) = false := by
                cases d2 <;> first | rfl | exact Bool.noConfusion (show true = false from i2)
              have e3 : isW d2 (some 1) none = false := by
                cases d2 <;> first | rfl | exact Bool.noConfusion (show true = false from i2)
              rw [e2] at k
              rw [e3]
              exact iteF k
            | true =>
              obtain ⟨b, rfl⟩ : ∃ t, d2 = .int t := by
                cases d2 <;> first | exact ⟨_, rfl⟩ | exact Bool.noConfusion (show false = true from i2)
              cases p1
              cases p2
              have k' : Q (.bl (decide (0 < b) && decide (a.natAbs.gcd b.natAbs = 1))) H := k
              have e5 : isW (.int b) (some 1) none = decide (0 < b) := by
                show (decide (1 ≤ b) && true) = decide (0 < b)
                rw [Bool.and_true]
                exact decide_eq_decide.mpr (by omega)
              rw [e5]
              refine ite2 (fun e => ?_) (fun e => ?_)
              · have e' : decide (0 < b) = true := e
                rw [e'] at k'
                refine ⟨_, rfl, _, rfl, a, b, rfl, rfl, ?_⟩
                have e3 : decide (V.int ((a.natAbs.gcd b.natAbs : Nat) : Int) = V.int 1) = decide (a.natAbs.gcd b.natAbs = 1) := by
                  apply decide_eq_decide.mpr
                  constructor
                  · intro q; injection q with q; omega
                  · intro q; rw [q]; rfl
                show Q (.bl (decide (V.int ((a.natAbs.gcd b.natAbs : Nat) : Int) = V.int 1))) H
                rw [e3]
                exact k'
              · have e' : decide (0 < b) = false := by
                  cases h : decide (0 < b) with
                  | false => rfl
                  | true => exact absurd h e
                rw [e'] at k'
                exact k'
theorem ok_law_same (T : Tx K mg) : FnOk P w K mg base CX0 3 T.law_same_ratio.f T.law_same_ratio.fd ["_law_told", "_law_due_here"] (spSame K) := by
  have Glaw_is_ratio : FnOk P w K mg base CX0 2 T.law_is_ratio.f T.law_is_ratio.fd ["_law_thing"] (spIsRt K) := ok_law_is_ratio T
  refine T.law_same_ratio.F.ok sc_law_same_ratio (fun vs H Q E h => ?_) (fun cdv A outer s H vs Q E hr h => ?_)
  · obtain ⟨_, _, _, rfl, _⟩ := h
    rfl
  · obtain ⟨v, v', q, rfl, r1, r2, sm, k⟩ := h
    refine ⟨_, (pss_one (ps_ret (pe_and (pe_call Glaw_is_ratio (hr.mono (by decide)) rfl T.law_is_ratio.g T.law_is_ratio.F.kp T.law_is_ratio.b .nil pass0 (pa_cons (pv 0) pa_nil)) (pe_one (pe_cmpR (op_eqD hr.units) (pv 0) (pv 1) (nomark _)))))), ?_⟩
    refine ⟨_, rfl, v, ratD q, rfl, r1.dp, sm, _, rfl, ?_⟩
    rw [isRt_rat]
    refine iteT ⟨_, rfl, _, rfl, ratD q, ratD q, r1.dp, r2.dp, sh_rat q, sh_rat q, ?_⟩
    rw [ev_rat]
    exact k
end
end K01
set_option Elab.async false
set_option linter.all false
set_option maxRecDepth 100000
set_option maxHeartbeats 4000000
set_option exponentiation.threshold 20000
namespace K01
open PySem L2
theorem Hand.ne_tup {H : Hp} {h c p : Addr} {xs : List V} (A : Hand H h c) (e : H p = some (.tup xs)) : p ≠ h := by
  obtain ⟨cells, i, rest, total, A⟩ := A
  exact ne_of e A.oh (by intro z; cases z)
def spBig : Sp := fun vs H Q _ => ∃ h c : Addr, vs = [.ref h] ∧ Hand H h c ∧ ∀ (r : Int) (H' : Hp), 0 ≤ r → r < 1000000000000000000 → Kept h H H' → Hand H' h c → Q (.int r) H'
def spSigned : Sp := fun vs H Q _ => ∃ h c : Addr, vs = [.ref h] ∧ Hand H h c ∧ ∀ (r : Int) (H' : Hp), r.natAbs < 1000000000000000000 → Kept h H H' → Hand H' h c → Q (.int r) H'
def spNumOdd (K : PySem.W.Frag) : Sp := fun vs H Q _ => ∃ h c : Addr, vs = [.ref h] ∧ Hand H h c ∧ ∀ (v : V) (d : PyData) (H' : Hp), Dp K H' v d → (∀ b, d = .int b → b.natAbs < 1000000000000000000) → Kept h H H' → Hand H' h c → (∀ p, v = .ref p → p ≠ h ∧ H' p = some (.tup [.int 1, .int 2]) ∧ d = .tuple [.int 1, .int 2]) → Q v H'
def spDue (K : PySem.W.Frag) : Sp := fun vs H Q _ => ∃ (v1 v2 : V) (d1 d2 : PyData), vs = [v1, v2] ∧ Dp K H v1 d1 ∧ Dp K H v2 d2 ∧ smB d2 ∧ ∀ (v : V) (H' : Hp), Same H H' → Dp K H' v (dueD d1 d2) → Q v H'
def spLOver (K : PySem.W.Frag) : Sp := fun vs H Q _ => ∃ (v w : V) (q r : Rat), vs = [v, w] ∧ RtV K H v q ∧ RtV K H w r ∧ Sz 900 q ∧ Sz 900 r ∧
  (r.num = 0 → ∀ H', Same H H' → Q (.str "zero") H') ∧ (r.num ≠ 0 → GiveRt Q H (q * r⁻¹))
theorem shown_small {m : Int} {k : Nat} (h0 : 0 < m) (h : m ≤ 1000000000000000000) : m.natAbs < 2 ^ 9000 := by
  have : m.natAbs < 2 ^ 60 := by
    have e : (2 : Nat) ^ 60 = 1152921504606846976 := by decide
    rw [e]; omega
  exact bd_of this (by decide)
section
variable {P : Program} {w : World} {K : PySem.W.Frag} {mg : Str → Option Value} {base : Heap}
theorem ok_big (T : Tx K mg) : FnOk P w K mg base CX0 3 T.law_big.f T.law_big.fd ["_law_hand_here"] spBig := by
  have Glaw_take : FnOk P w K mg base CX0 2 T.law_take.f T.law_take.fd ["_law_hand_here", "_law_many"] spTake := ok_take T.toTxA
  refine T.law_big.F.ok sc_law_big (fun vs H Q E h => ?_) (fun cdv A outer s H vs Q E hr h => ?_)
  · obtain ⟨_, _, rfl, _⟩ := h
    rfl
  · obtain ⟨h, c, rfl, hh, k⟩ := h
    refine ⟨_, (pss_one (ps_ret (pe_call Glaw_take (hr.mono (by decide)) rfl T.law_take.g T.law_take.F.kp T.law_take.b .nil pass0 (pa_cons (pv 0) (pa_cons (pe_ix ix_tup (pe_tup (pa_cons pe_int (pa_cons (pe_op op_pow pe_int pe_int) (pa_cons (pe_op op_pow pe_int pe_int) (pa_cons (pe_op op_pow pe_int pe_int) pa_nil))))) (pe_call Glaw_take (hr.mono (by decide)) rfl T.law_take.g T.law_take.F.kp T.law_take.b .nil pass0 (pa_cons (pv 0) (pa_cons pe_int pa_nil))) (fun _ _ => rfl)) pa_nil))))), ?_⟩
    refine ⟨_, rfl, _, _, rfl, rfl, (by show CPow 10 6; unfold CPow; decide), _, _, rfl, rfl, (by show CPow 10 18; unfold CPow; decide), _, _, rfl, rfl, (by show CPow 10 9; unfold CPow; decide), (by show 4 ≤ sizeLine; decide), fun p hp => ?_⟩
    have h1 := hh.same (same_new (o := .tup [.int 7, .int (10 ^ 6), .int (10 ^ 18), .int (10 ^ 9)]) hp)
    refine ⟨_, rfl, h, c, 4, rfl, by decide, by decide, h1, fun r H2 r0 r1 kp2 hh2 => ?_⟩
    have np : p ≠ h := Hand.ne_tup h1 upd_same
    have tp : H2 p = some (.tup [.int 7, .int (10 ^ 6), .int (10 ^ 18), .int (10 ^ 9)]) := kp2 _ _ np upd_same
    have kp : Kept h H H2 := (kept_new hp).trans kp2
    have fin : ∀ m : Int, 0 < m → m ≤ 1000000000000000000 → spTake [.ref h, .int m] H2 Q E := fun m m0 m1 =>
      ⟨h, c, m, rfl, m0, shown_small (k := 0) m0 m1, hh2, fun r3 H3 a b c' d => k r3 H3 a (by omega) (kp.trans c') d⟩
    have rr : r = 0 ∨ r = 1 ∨ r = 2 ∨ r = 3 := by omega
    rcases rr with rfl | rfl | rfl | rfl
    · exact ⟨p, _, 0, _, rfl, rfl, SqT.of tp, atI_nat rfl, fin 7 (by decide) (by decide)⟩
    · exact ⟨p, _, 1, _, rfl, rfl, SqT.of tp, atI_nat rfl, fin (10 ^ 6) (by decide) (by decide)⟩
    · exact ⟨p, _, 2, _, rfl, rfl, SqT.of tp, atI_nat rfl, fin (10 ^ 18) (by decide) (by decide)⟩
    · exact ⟨p, _, 3, _, rfl, rfl, SqT.of tp, atI_nat rfl, fin (10 ^ 9) (by decide) (by decide)⟩
theorem ok_signed (T : Tx K mg) : FnOk P w K mg base CX0 4 T.law_signed.f T.law_signed.fd ["_law_hand_here"] spSigned := by
  have Glaw_take : FnOk P w K mg base CX0 2 T.law_take.f T.law_take.fd ["_law_hand_here", "_law_many"] spTake := ok_take T.toTxA
  have Glaw_big : FnOk P w K mg base CX0 3 T.law_big.f T.law_big.fd ["_law_hand_here"] spBig := ok_big T
  refine T.law_signed.F.ok sc_law_signed (fun vs H Q E h => ?_) (fun cdv A outer s H vs Q E hr h => ?_)
  · obtain ⟨_, _, rfl, _⟩ := h
    rfl
  · obtain ⟨h, c, rfl, hh, k⟩ := h
    refine ⟨_, (pss_cons (ps_set (i := 1) sc_law_signed.nd rfl (Or.inl rfl) (pe_call Glaw_big (hr.mono (by decide)) rfl T.law_big.g T.law_big.F.kp T.law_big.b .nil pass0 (pa_cons (pv 0) pa_nil)))
  (pss_one (ps_ret (pe_ifExp (pt_truth (pe_call Glaw_take (hr.mono (by decide)) rfl T.law_take.g T.law_take.F.kp T.law_take.b .nil pass0 (pa_cons (pv 0) (pa_cons pe_int pa_nil))) (by intro _; rfl)) (pe_un un_neg (pv 1)) (pv 1))))), ?_⟩
    refine ⟨_, rfl, h, c, rfl, hh, fun r H1 r0 r1 kp1 hh1 => ?_⟩
    refine ⟨_, rfl, h, c, 2, rfl, by decide, by decide, hh1, fun t H2 t0 t1 kp2 hh2 => ?_⟩
    refine ⟨_, rfl, ?_⟩
    refine ite2 (fun e => ?_) (fun e => ?_)
    · exact ⟨_, rfl, _, rfl, k _ _ (by omega) (kp1.trans kp2) hh2⟩
    · exact ⟨_, rfl, k _ _ (by omega) (kp1.trans kp2) hh2⟩
theorem ok_num_odd (T : Tx K mg) : FnOk P w K mg base CX0 5 T.law_number_or_odd.f T.law_number_or_odd.fd ["_law_hand_here"] (spNumOdd K) := by
  have Glaw_take : FnOk P w K mg base CX0 2 T.law_take.f T.law_take.fd ["_law_hand_here", "_law_many"] spTake := ok_take T.toTxA
  have Glaw_signed : FnOk P w K mg base CX0 4 T.law_signed.f T.law_signed.fd ["_law_hand_here"] spSigned := ok_signed T
  refine T.law_number_or_odd.F.ok sc_law_number_or_odd (fun vs H Q E h => ?_) (fun cdv A outer s H vs Q E hr h => ?_)
  · obtain ⟨_, _, rfl, _⟩ := h
    rfl
  · obtain ⟨h, c, rfl, hh, k⟩ := h
    refine ⟨_, (pss_cons (ps_if (pt_cmpR op_eq (pe_call Glaw_take (hr.mono (by decide)) rfl T.law_take.g T.law_take.F.kp T.law_take.b .nil pass0 (pa_cons (pv 0) (pa_cons pe_int pa_nil))) pe_int (nomark _)) (pss_one (ps_ret (pe_ix ix_tup (pe_tup (pa_cons pe_bl (pa_cons pe_bl (pa_cons pe_non (pa_cons pe_str (pa_cons (pe_tup (pa_cons pe_int (pa_cons pe_int pa_nil))) (pa_cons pe_str pa_nil))))))) (pe_call Glaw_take (hr.mono (by decide)) rfl T.law_take.g T.law_take.F.kp T.law_take.b .nil pass0 (pa_cons (pv 0) (pa_cons pe_int pa_nil))) (fun _ _ => rfl)))) pss_nil)
  (pss_one (ps_ret (pe_call Glaw_signed (hr.mono (by decide)) rfl T.law_signed.g T.law_signed.F.kp T.law_signed.b .nil pass0 (pa_cons (pv 0) pa_nil))))), ?_⟩
    refine ⟨_, rfl, h, c, 5, rfl, by decide, by decide, hh, fun r H1 r0 r1 kp1 hh1 => ?_⟩
    refine ⟨rfl, _, rfl, ?_⟩
    refine ite2 (fun e => ?_) (fun e => ?_)
    · refine ⟨(by show 2 ≤ sizeLine; decide), fun q hq => ?_⟩
      have a1 := hh1.same (same_new (o := .tup [.int 1, .int 2]) hq)
      refine ⟨(by show 6 ≤ sizeLine; decide), fun p hp => ?_⟩
      have a2 := a1.same (same_new (o := .tup [.bl true, .bl false, .non, .str "3", .ref q, .str ""]) hp)
      refine ⟨_, rfl, h, c, 6, rfl, by decide, by decide, a2, fun t H2 t0 t1 kp2 hh2 => ?_⟩
      have tp : H2 p = some (.tup [.bl true, .bl false, .non, .str "3", .ref q, .str ""]) := kp2 _ _ (Hand.ne_tup a2 upd_same) upd_same
      have tq0 : (upd (upd H1 q (.tup [.int 1, .int 2])) p (.tup [.bl true, .bl false, .non, .str "3", .ref q, .str ""])) q = some (.tup [.int 1, .int 2]) := by
        rw [upd_ne (ne_of_none upd_same hp), upd_same]
      have nq : q ≠ h := Hand.ne_tup a2 tq0
      have tq : H2 q = some (.tup [.int 1, .int 2]) := kp2 _ _ nq tq0
      have kp : Kept h H H2 := ((kp1.trans (kept_new hq)).trans (kept_new hp)).trans kp2
      have tt : t = 0 ∨ t = 1 ∨ t = 2 ∨ t = 3 ∨ t = 4 ∨ t = 5 := by omega
      rcases tt with rfl | rfl | rfl | rfl | rfl | rfl
      · exact ⟨p, _, 0, _, rfl, rfl, SqT.of tp, atI_nat rfl, k _ (.bool true) _ (.bl true) (fun b z => by cases z) kp hh2 (fun _ z => by cases z)⟩
      · exact ⟨p, _, 1, _, rfl, rfl, SqT.of tp, atI_nat rfl, k _ (.bool false) _ (.bl false) (fun b z => by cases z) kp hh2 (fun _ z => by cases z)⟩
      · exact ⟨p, _, 2, _, rfl, rfl, SqT.of tp, atI_nat rfl, k _ .none _ .non (fun b z => by cases z) kp hh2 (fun _ z => by cases z)⟩
      · exact ⟨p, _, 3, _, rfl, rfl, SqT.of tp, atI_nat rfl, k _ (.str "3") _ (.str _) (fun b z => by cases z) kp hh2 (fun _ z => by cases z)⟩
      · exact ⟨p, _, 4, _, rfl, rfl, SqT.of tp, atI_nat rfl, k _ (.tuple [.int 1, .int 2]) _ (.tup (SqT.of tq) (.cons (.int _) (.cons (.int _) .nil))) (fun b z => by cases z) kp hh2 (fun _ z => by cases z; exact ⟨nq, tq, rfl⟩)⟩
      · exact ⟨p, _, 5, _, rfl, rfl, SqT.of tp, atI_nat rfl, k _ (.str "") _ (.str _) (fun b z => by cases z) kp hh2 (fun _ z => by cases z)⟩
    · exact ⟨_, rfl, h, c, rfl, hh1, fun z H2 z1 kp2 hh2 => k _ (.int z) _ (.int z) (fun b q => by cases q; exact z1) (kp1.trans kp2) hh2 (fun _ q => by cases q)⟩
theorem ok_due (T : Tx K mg) : FnOk P w K mg base CX0 3 T.law_due.f T.law_due.fd ["_law_top", "_law_bottom"] (spDue K) := by
  have Glaw_int : FnOk P w K mg base CX0 1 T.law_int.f T.law_int.fd ["_law_thing"] (spInt K) := ok_law_int T
  have Glaw_ratio : FnOk P w K mg base CX0 2 T.law_ratio.f T.law_ratio.fd ["_law_top", "_law_bottom"] spLRatio := ok_lratio T
  refine T.law_due.F.ok sc_law_due (fun vs H Q E h => ?_) (fun cdv A outer s H vs Q E hr h => ?_)
  · obtain ⟨_, _, _, _, rfl, _⟩ := h
    rfl
  · obtain ⟨v1, v2, d1, d2, rfl, p1, p2, sm, k⟩ := h
    refine ⟨_, (pss_cons (ps_if (pt_not (pt_val (pe_call Glaw_int (hr.mono (by decide)) rfl T.law_int.g T.law_int.F.kp T.law_int.b .nil pass0 (pa_cons (pv 0) pa_nil)))) (pss_one (ps_ret pe_str)) pss_nil)
  (pss_cons (ps_if (PW.pt (pw_or (pt_not (pt_val (pe_call Glaw_int (hr.mono (by decide)) rfl T.law_int.g T.law_int.F.kp T.law_int.b .nil pass0 (pa_cons (pv 1) pa_nil)))) (pw_or1 (pt_cmpR op_eq (pv 1) pe_int (nomark _))))) (pss_one (ps_ret pe_str)) pss_nil)
  (pss_one (ps_ret (pe_call Glaw_ratio (hr.mono (by decide)) rfl T.law_ratio.g T.law_ratio.F.kp T.law_ratio.b .nil pass0 (pa_cons (pv 0) (pa_cons (pv 1) pa_nil))))))), ?_⟩
    refine ⟨_, rfl, _, d1, rfl, p1, _, rfl, ?_⟩
    cases i1 : isI d1 with
    | false =>
      have e2 : dueD d1 d2 = .str "top" := by
        cases d1 <;> first | rfl | exact Bool.noConfusion (show true = false from i1)
      rw [e2] at k
      exact iteT (k _ _ (Same.refl _) (.str _))
    | true =>
      obtain ⟨t, rfl⟩ : ∃ t, d1 = .int t := by
        cases d1 <;> first | exact ⟨_, rfl⟩ | exact Bool.noConfusion (show false = true from i1)
      cases p1
      refine iteF ⟨_, rfl, _, d2, rfl, p2, _, rfl, ?_⟩
      cases i2 : isI d2 with
      | false =>
        have e2 : dueD (.int t) d2 = .str "bottom" := by
          cases d2 <;> first | rfl | exact Bool.noConfusion (show true = false from i2)
        rw [e2] at k
        exact iteT (iteT (k _ _ (Same.refl _) (.str _)))
      | true =>
        obtain ⟨b, rfl⟩ : ∃ t, d2 = .int t := by
          cases d2 <;> first | exact ⟨_, rfl⟩ | exact Bool.noConfusion (show false = true from i2)
        cases p2
        have e2 : dueD (.int t) (.int b) = if b = 0 then .str "bottom" else ratD (Rat.divInt t b) := rfl
        rw [e2] at k
        refine iteF ⟨_, rfl, rfl, _, rfl, ?_⟩
        refine ite2 (fun e => ?_) (fun e => ?_)
        · have e' : b = 0 := by have := of_decide_eq_true e; injection this
          rw [if_pos e'] at k
          exact k _ _ (Same.refl _) (.str _)
        · have e' : b ≠ 0 := fun z => e (by rw [z]; exact decide_eq_true rfl)
          rw [if_neg e'] at k
          exact ⟨_, rfl, _, rfl, t, b, rfl, e', sm, fun p H' s1 n1 e1 => k _ _ s1 (RtV.dp ⟨p, rfl, SqT.of e1⟩)⟩
end
end K01
set_option Elab.async false
set_option linter.all false
set_option maxRecDepth 100000
set_option maxHeartbeats 4000000
set_option exponentiation.threshold 20000
namespace K01
open PySem L2
section
variable {P : Program} {w : World} {K : PySem.W.Frag} {mg : Str → Option Value} {base : Heap}
theorem ok_law_make (T : Tx K mg) : FnOk P w K mg base CX0 4 T.law_make.f T.law_make.fd ["_law_top", "_law_bottom"] (spDue K) := by
  have Gmake : FnOk P w K mg base (L2.CX P w) 3 T.make_ratio.f T.make_ratio.fd ["top", "bottom"] (spMake K T.C) := ok_make T
  obtain ⟨ds, hv, hb⟩ := T.make_ratio.b 1 (by decide)
  cases hv
  refine T.law_make.F.ok sc_law_make (fun vs H Q E h => ?_) (fun cdv A outer s H vs Q E hr h => ?_)
  · obtain ⟨_, _, _, _, rfl, _⟩ := h
    rfl
  · obtain ⟨v1, v2, d1, d2, rfl, p1, p2, sm, k⟩ := h
    refine ⟨_, (cut (ps_try_as (i := 3) (tb := fun W => tAsg (tCallS (spMake K T.C) (WE W) (tCons (tVar 0) (tCons (tVar 1) tNil))) (gName 2)) (ts := fun a cls d => tAsg (tByLow T.C a cls d (tVar 3)) (gName 2)) (Wout := fun _ _ _ _ => False) rfl rfl sc_law_make.nd rfl rfl ⟨rfl, by decide, Or.inl T.low.gC⟩ takes0
          (fun W pn xe tk _ => pss_one (ps_set (i := 2) sc_law_make.nd rfl (Or.inl rfl) (by exact (pe_callS Gmake (hr.mono (by decide)) rfl T.make_ratio.g T.make_ratio.F.kp hb (fun σ => passAt tk σ) (by exact (pa_cons (pv 0) (pa_cons (pv 1) pa_nil)))))))
          (fun a oe cls d pn hz hf => pss_one (ps_set (i := 2) sc_law_make.nd rfl (Or.inl rfl) (by exact (pe_byLow T.low hz hf (pv 3))))))
      (pss_one (ps_ret (pv 2)))), ?_⟩
    refine ⟨fun σ' H' => Same H H' ∧ ∃ (v : V) (x : Option V), σ' = [some v1, some v2, some v, x] ∧ Dp K H' v (dueD d1 d2), ?_, ?_⟩
    · refine ⟨_, rfl, _, rfl, v1, v2, d1, d2, rfl, p1, p2, fun i1 d hd => ?_, fun i1 i2 d hd => ?_, fun t b f1 f2 b0 => ⟨?_, fun p H' s1 n1 e1 => ?_⟩⟩
      · have e2 : dueD d1 d2 = .str "top" := by
          cases d1 <;> first | rfl | exact Bool.noConfusion (show true = false from i1)
        refine ⟨true, T.low.te, fun _ a ha => ?_, fun q => Bool.noConfusion q⟩
        exact ⟨_, rfl, rfl, rfl, d, _, rfl, upd_same, same_new hd, _, _, rfl, by rw [e2]; exact .str _⟩
      · have e2 : dueD d1 d2 = .str "bottom" := by
          obtain ⟨t, rfl⟩ : ∃ t, d1 = .int t := by
            cases d1 <;> first | exact ⟨_, rfl⟩ | exact Bool.noConfusion (show false = true from i1)
          cases d2 with
          | int b =>
            have b0 : b = 0 := by
              by_cases z : b = 0
              · exact z
              · have : okB (.int b) = true := decide_eq_true z
                rw [this] at i2; cases i2
            show (if b = 0 then PyData.str "bottom" else _) = _
            rw [if_pos b0]
          | _ => rfl
        refine ⟨true, T.low.te, fun _ a ha => ?_, fun q => Bool.noConfusion q⟩
        exact ⟨_, rfl, rfl, rfl, d, _, rfl, upd_same, same_new hd, _, _, rfl, by rw [e2]; exact .str _⟩
      · subst f2
        exact sm
      · subst f1
        subst f2
        refine ⟨s1, _, _, rfl, ?_⟩
        show Dp K H' (V.ref p) (if b = 0 then PyData.str "bottom" else ratD (Rat.divInt t b))
        rw [if_neg b0]
        exact RtV.dp ⟨p, rfl, SqT.of e1⟩
    rintro σ' H' ⟨s1, v, x, rfl, hd⟩
    exact ⟨_, rfl, k v H' s1 hd⟩
theorem ok_law_over (T : Tx K mg) : FnOk P w K mg base CX0 4 T.law_over.f T.law_over.fd ["_law_one", "_law_other"] (spLOver K) := by
  have Gover : FnOk P w K mg base (L2.CX P w) 3 T.over.f T.over.fd ["one", "other"] (spOver K T.C) := ok_over T
  refine T.law_over.F.ok sc_law_over (fun vs H Q E h => ?_) (fun cdv A outer s H vs Q E hr h => ?_)
  · obtain ⟨_, _, _, _, rfl, _⟩ := h
    rfl
  · obtain ⟨v1, v2, q, r, rfl, r1, r2, z1, z2, kZ, k⟩ := h
    refine ⟨_, (cut (ps_try_as (i := 3) (tb := fun W => tAsg (tCallS (spOver K T.C) (WE W) (tCons (tVar 0) (tCons (tVar 1) tNil))) (gName 2)) (ts := fun a cls d => tAsg (tByLow T.C a cls d (tVar 3)) (gName 2)) (Wout := fun _ _ _ _ => False) rfl rfl sc_law_over.nd rfl rfl ⟨rfl, by decide, Or.inl T.low.gC⟩ takes0
          (fun W pn xe tk _ => pss_one (ps_set (i := 2) sc_law_over.nd rfl (Or.inl rfl) (by exact (pe_callS Gover (hr.mono (by decide)) rfl T.over.g T.over.F.kp T.over.b (fun σ => passAt tk σ) (by exact (pa_cons (pv 0) (pa_cons (pv 1) pa_nil)))))))
          (fun a oe cls d pn hz hf => pss_one (ps_set (i := 2) sc_law_over.nd rfl (Or.inl rfl) (by exact (pe_byLow T.low hz hf (pv 3))))))
      (pss_one (ps_ret (pv 2)))), ?_⟩
    refine ⟨fun σ' H' => ∃ (v : V) (x : Option V), σ' = [some v1, some v2, some v, x] ∧ Q v H', ?_, ?_⟩
    · refine ⟨_, rfl, _, rfl, v1, v2, q, r, rfl, r1, r2, z1, z2, fun e d hd => ?_, fun e p H' s1 n1 e1 => ?_⟩
      · refine ⟨true, T.low.te, fun _ a ha => ?_, fun q => Bool.noConfusion q⟩
        exact ⟨_, rfl, rfl, rfl, d, _, rfl, upd_same, _, _, rfl, kZ e _ (same_new hd)⟩
      · exact ⟨_, _, rfl, k e p H' s1 n1 e1⟩
    rintro σ' H' ⟨v, x, rfl, q⟩
    exact ⟨_, rfl, q⟩
def spPair (K : PySem.W.Frag) : Sp := fun vs H Q _ => ∃ (v w : V) (q r : Rat), vs = [v, w] ∧ RtV K H v q ∧ RtV K H w r ∧ Sz 100 q ∧ Sz 100 r ∧ ∀ H', Same H H' → Q (.bl true) H'
theorem Sz.mono {a b : Nat} {q : Rat} (h : Sz a q) (l : a ≤ b) : Sz b q := ⟨bd_of h.1 l, bd_of h.2 l⟩
theorem den_plus (q r : Rat) (z1 : Sz 100 q) (z2 : Sz 100 r) : (q + r).den < 2 ^ 1990 := by
  have h : (q + r).den ∣ q.den * r.den := by
    rw [Rat.den_add]
    exact Nat.div_dvd_of_dvd (Nat.gcd_dvd_right _ _)
  have h2 : (q + r).den ≤ q.den * r.den := Nat.le_of_dvd (Nat.mul_pos q.den_pos r.den_pos) h
  have h3 : q.den * r.den < 2 ^ 100 * 2 ^ 100 := Nat.mul_lt_mul'' z1.2 z2.2
  rw [← Nat.pow_add] at h3
  exact bd_of (Nat.lt_of_le_of_lt h2 h3) (by decide)
theorem den_times (q r : Rat) (z1 : q.den < 2 ^ 100) (z2 : r.den < 2 ^ 100) : (q * r).den < 2 ^ 1990 := by
  have h : (q * r).den ∣ q.den * r.den := by
    rw [Rat.den_mul]
    exact Nat.div_dvd_of_dvd (Nat.gcd_dvd_right _ _)
  have h2 : (q * r).den ≤ q.den * r.den := Nat.le_of_dvd (Nat.mul_pos q.den_pos r.den_pos) h
  have h3 : q.den * r.den < 2 ^ 100 * 2 ^ 100 := Nat.mul_lt_mul'' z1 z2
  rw [← Nat.pow_add] at h3
  exact bd_of (Nat.lt_of_le_of_lt h2 h3) (by decide)
end
end K01
set_option Elab.async false
set_option linter.all false
set_option maxRecDepth 100000
set_option maxHeartbeats 4000000
set_option exponentiation.threshold 20000
namespace K01
open PySem L2
theorem den_inv (r : Rat) (z : Sz 100 r) : (r⁻¹).den < 2 ^ 100 := by
  rw [Rat.den_inv]
  split
  · exact Nat.one_lt_two_pow (by decide)
  · exact z.1
theorem sz_neg {n : Nat} {r : Rat} (z : Sz n r) : Sz n (-r) := ⟨by show (-r.num).natAbs < _; rw [Int.natAbs_neg]; exact z.1, z.2⟩
section
variable {P : Program} {w : World} {K : PySem.W.Frag} {mg : Str → Option Value} {base : Heap}
theorem ok_pair (T : Tx K mg) : FnOk P w K mg base CX0 5 T.law_pair_right.f T.law_pair_right.fd ["_law_one", "_law_other"] (spPair K) := by
  have Gplus : FnOk P w K mg base CX0 1 T.plus.f T.plus.fd ["one", "other"] (sp2 K (· + ·)) := ok_plus T
  have Gminus : FnOk P w K mg base CX0 2 T.minus.f T.minus.fd ["one", "other"] (sp2 K (fun q r => q + -r)) := ok_minus T
  have Gtimes : FnOk P w K mg base CX0 1 T.times.f T.times.fd ["one", "other"] (sp2 K (· * ·)) := ok_times T
  have Gcompare : FnOk P w K mg base CX0 1 T.compare.f T.compare.fd ["one", "other"] (spCmp K) := ok_compare T
  have Glaw_plus : FnOk P w K mg base CX0 3 T.law_plus.f T.law_plus.fd ["_law_one", "_law_other"] (sp2 K (· + ·)) := ok_law_plus T
  have Glaw_times : FnOk P w K mg base CX0 3 T.law_times.f T.law_times.fd ["_law_one", "_law_other"] (sp2 K (· * ·)) := ok_law_times T
  have Glaw_ratio : FnOk P w K mg base CX0 2 T.law_ratio.f T.law_ratio.fd ["_law_top", "_law_bottom"] spLRatio := ok_lratio T
  have Glaw_int : FnOk P w K mg base CX0 1 T.law_int.f T.law_int.fd ["_law_thing"] (spInt K) := ok_law_int T
  have Glaw_same_ratio : FnOk P w K mg base CX0 3 T.law_same_ratio.f T.law_same_ratio.fd ["_law_told", "_law_due_here"] (spSame K) := ok_law_same T
  have Glaw_over : FnOk P w K mg base CX0 4 T.law_over.f T.law_over.fd ["_law_one", "_law_other"] (spLOver K) := ok_law_over T
  refine T.law_pair_right.F.ok sc_law_pair_right (fun vs H Q E h => ?_) (fun cdv A outer s H vs Q E hr h => ?_)
  · obtain ⟨_, _, _, _, rfl, _⟩ := h
    rfl
  · obtain ⟨v, v', q, r, rfl, r1, r2, y1, y2, k⟩ := h
    have z1 : Sz 900 q := y1.mono (by decide)
    have z2 : Sz 900 r := y2.mono (by decide)
    obtain ⟨pq, rfl, S1⟩ := id r1
    obtain ⟨pr, rfl, S2⟩ := id r2
    refine ⟨_, (cut (ps_if (PW.pt (pw_or (pt_not (pt_val (pe_call Glaw_same_ratio (hr.mono (by decide)) rfl T.law_same_ratio.g T.law_same_ratio.F.kp T.law_same_ratio.b .nil pass0 (pa_cons (pe_call Gplus (hr.mono (by decide)) rfl T.plus.g T.plus.F.kp T.plus.b .nil pass0 (pa_cons (pv 0) (pa_cons (pv 1) pa_nil))) (pa_cons (pe_call Glaw_plus (hr.mono (by decide)) rfl T.law_plus.g T.law_plus.F.kp T.law_plus.b .nil pass0 (pa_cons (pv 0) (pa_cons (pv 1) pa_nil))) pa_nil))))) (pw_or1 (pt_not (pt_val (pe_call Glaw_same_ratio (hr.mono (by decide)) rfl T.law_same_ratio.g T.law_same_ratio.F.kp T.law_same_ratio.b .nil pass0 (pa_cons (pe_call Gtimes (hr.mono (by decide)) rfl T.times.g T.times.F.kp T.times.b .nil pass0 (pa_cons (pv 0) (pa_cons (pv 1) pa_nil))) (pa_cons (pe_call Glaw_times (hr.mono (by decide)) rfl T.law_times.g T.law_times.F.kp T.law_times.b .nil pass0 (pa_cons (pv 0) (pa_cons (pv 1) pa_nil))) pa_nil)))))))) (pss_one (ps_ret pe_bl)) pss_nil)
  (pss_cons (ps_set (i := 2) sc_law_pair_right.nd rfl (Or.inl rfl) (pe_op op_mulW (pe_ix ix_tup (pv 0) pe_int (fun _ _ => rfl)) (pe_ix ix_tup (pv 1) pe_int (fun _ _ => rfl))))
  (cut (ps_set (i := 3) sc_law_pair_right.nd rfl (Or.inl rfl) (pe_op op_mulW (pe_ix ix_tup (pv 1) pe_int (fun _ _ => rfl)) (pe_ix ix_tup (pv 0) pe_int (fun _ _ => rfl))))
  (cut (ps_if (pt_not (pt_val (pe_call Glaw_same_ratio (hr.mono (by decide)) rfl T.law_same_ratio.g T.law_same_ratio.F.kp T.law_same_ratio.b .nil pass0 (pa_cons (pe_call Gminus (hr.mono (by decide)) rfl T.minus.g T.minus.F.kp T.minus.b .nil pass0 (pa_cons (pv 0) (pa_cons (pv 1) pa_nil))) (pa_cons (pe_call Glaw_ratio (hr.mono (by decide)) rfl T.law_ratio.g T.law_ratio.F.kp T.law_ratio.b .nil pass0 (pa_cons (pe_op op_sub (pv 2) (pv 3)) (pa_cons (pe_op op_mulW (pe_ix ix_tup (pv 0) pe_int (fun _ _ => rfl)) (pe_ix ix_tup (pv 1) pe_int (fun _ _ => rfl))) pa_nil))) pa_nil))))) (pss_one (ps_ret pe_bl)) pss_nil)
  (cut (ps_set (i := 4) sc_law_pair_right.nd rfl (Or.inl rfl) (pe_call Gcompare (hr.mono (by decide)) rfl T.compare.g T.compare.F.kp T.compare.b .nil pass0 (pa_cons (pv 0) (pa_cons (pv 1) pa_nil))))
  (cut (ps_if (PW.pt (pw_or (pt_not (pt_val (pe_call Glaw_int (hr.mono (by decide)) rfl T.law_int.g T.law_int.F.kp T.law_int.b .nil pass0 (pa_cons (pv 4) pa_nil)))) (pw_or1 (pt_cmpR op_ne (pv 4) (pe_ifExp (pt_cmpR op_eq (pv 2) (pv 3) (nomark _)) pe_int (pe_ifExp (pt_cmpR op_gt (pv 2) (pv 3) (nomark _)) pe_int (pe_un un_neg pe_int))) (nomark _))))) (pss_one (ps_ret pe_bl)) pss_nil)
  (cut (ps_set (i := 5) sc_law_pair_right.nd rfl (Or.inl rfl) (pe_call Glaw_over (hr.mono (by decide)) rfl T.law_over.g T.law_over.F.kp T.law_over.b .nil pass0 (pa_cons (pv 0) (pa_cons (pv 1) pa_nil))))
  (pss_cons (ps_if (pt_cmpR op_eq (pe_ix ix_tup (pv 1) pe_int (fun _ _ => rfl)) pe_int (nomark _)) (pss_one (ps_ret (pe_cmpR op_eq (pv 5) pe_str (nomark _)))) pss_nil)
  (pss_one (ps_ret (pe_call Glaw_same_ratio (hr.mono (by decide)) rfl T.law_same_ratio.g T.law_same_ratio.F.kp T.law_same_ratio.b .nil pass0 (pa_cons (pv 5) (pa_cons (pe_call Glaw_ratio (hr.mono (by decide)) rfl T.law_ratio.g T.law_ratio.F.kp T.law_ratio.b .nil pass0 (pa_cons (pe_op op_mulW (pe_ix ix_tup (pv 0) pe_int (fun _ _ => rfl)) (pe_ix ix_tup (pv 1) pe_int (fun _ _ => rfl))) (pa_cons (pe_op op_mulW (pe_ix ix_tup (pv 0) pe_int (fun _ _ => rfl)) (pe_ix ix_tup (pv 1) pe_int (fun _ _ => rfl))) pa_nil))) pa_nil))))))))))))), ?_⟩
    have wm : ∀ {i j : Int}, i.natAbs < 2 ^ 100 → j.natAbs < 2 ^ 100 → CMulW i j := fun a b => wide_mul (a := 100) (b := 100) a b (by decide) (by decide) (by decide)
    have d1 : ((q.den : Int)).natAbs < 2 ^ 100 := y1.2
    have d2 : ((r.den : Int)).natAbs < 2 ^ 100 := y2.2
    -- sums and products
    refine ⟨fun σ' H' => Same H H' ∧ σ' = [some (.ref pq), some (.ref pr), none, none, none, none], ?_, ?_⟩
    · refine ⟨_, rfl, _, rfl, _, _, q, r, rfl, r1, r2, z1, z2, fun p1 H1 s1 n1 e1 => ⟨_, rfl, _, rfl, _, _, q, r, rfl, r1.same s1, r2.same s1, z1, z2, fun p2 H2 s2 n2 e2 => ⟨_, _, q + r, rfl, ⟨p1, rfl, SqT.of (s2 _ _ e1)⟩, ⟨p2, rfl, SqT.of e2⟩, den_plus q r y1 y2, _, rfl, iteF ?_⟩⟩⟩
      have t2 : Same H H2 := s1.trans s2
      refine ⟨_, rfl, _, rfl, _, _, q, r, rfl, r1.same t2, r2.same t2, z1, z2, fun p3 H3 s3 n3 e3 => ⟨_, rfl, _, rfl, _, _, q, r, rfl, (r1.same t2).same s3, (r2.same t2).same s3, z1, z2, fun p4 H4 s4 n4 e4 => ⟨_, _, q * r, rfl, ⟨p3, rfl, SqT.of (s4 _ _ e3)⟩, ⟨p4, rfl, SqT.of e4⟩, den_times q r y1.2 y2.2, _, rfl, iteF ?_⟩⟩⟩
      exact ⟨(t2.trans s3).trans s4, rfl⟩
    rintro σ' Ha ⟨ta, rfl⟩
    have Sa1 := ta.seqT S1
    have Sa2 := ta.seqT S2
    obtain ⟨L, hL⟩ : ∃ x : Int, x = q.num * (r.den : Int) := ⟨_, rfl⟩
    obtain ⟨R, hR⟩ : ∃ x : Int, x = r.num * (q.den : Int) := ⟨_, rfl⟩
    refine ⟨_, rfl, pq, _, 0, _, rfl, rfl, Sa1, atI_nat rfl, _, rfl, pr, _, 1, _, rfl, rfl, Sa2, atI_nat rfl, _, _, rfl, rfl, wm y1.1 d2, ?_⟩
    refine ⟨fun σ' H' => H' = Ha ∧ σ' = [some (.ref pq), some (.ref pr), some (.int L), some (.int R), none, none], ?_, ?_⟩
    · exact ⟨_, rfl, pr, _, 0, _, rfl, rfl, Sa2, atI_nat rfl, _, rfl, pq, _, 1, _, rfl, rfl, Sa1, atI_nat rfl, _, _, rfl, rfl, wm y2.1 d1, rfl, by rw [hL, hR]; rfl⟩
    rintro σ' Hb ⟨rfl, rfl⟩
    -- the difference
    refine ⟨fun σ' H' => Same H H' ∧ σ' = [some (.ref pq), some (.ref pr), some (.int L), some (.int R), none, none], ?_, ?_⟩
    · refine ⟨_, rfl, _, rfl, _, _, q, r, rfl, r1.same ta, r2.same ta, z1, z2, fun p1 H1 s1 n1 e1 => ?_⟩
      have Sc1 := s1.seqT Sa1
      have Sc2 := s1.seqT Sa2
      refine ⟨_, rfl, _, rfl, _, _, rfl, rfl, _, rfl, pq, _, 1, _, rfl, rfl, Sc1, atI_nat rfl, _, rfl, pr, _, 1, _, rfl, rfl, Sc2, atI_nat rfl, _, _, rfl, rfl, wm d1 d2, ?_⟩
      refine ⟨_, _, rfl, ?_, ?_, fun p2 H2 s2 n2 e2 => ?_⟩
      · have : 0 < q.den * r.den := Nat.mul_pos q.den_pos r.den_pos
        intro z
        have z' : ((q.den * r.den : Nat) : Int) = 0 := z
        omega
      · exact bd_of (wide_lt d1 d2) (by decide)
      · have e2' : H2 p2 = some (.tup [.int (Rat.divInt (L - R) ((q.den : Int) * (r.den : Int))).num, .int ((Rat.divInt (L - R) ((q.den : Int) * (r.den : Int))).den : Int)]) := e2
        rw [hL, hR, K01M.minus_math] at e2'
        exact ⟨_, _, q + -r, rfl, ⟨p1, rfl, SqT.of (s2 _ _ e1)⟩, ⟨p2, rfl, SqT.of e2'⟩, den_plus q (-r) y1 (sz_neg y2), _, rfl, iteF ⟨(ta.trans s1).trans s2, rfl⟩⟩
    rintro σ' Hc ⟨tc, rfl⟩
    refine ⟨fun σ' H' => H' = Hc ∧ σ' = [some (.ref pq), some (.ref pr), some (.int L), some (.int R), some (.int (sgn q r)), none], ?_, ?_⟩
    · exact ⟨_, rfl, _, rfl, _, _, q, r, rfl, r1.same tc, r2.same tc, z1, z2, rfl, rfl⟩
    rintro σ' Hd ⟨rfl, rfl⟩
    refine ⟨fun σ' H' => H' = Hd ∧ σ' = [some (.ref pq), some (.ref pr), some (.int L), some (.int R), some (.int (sgn q r)), none], ?_, ?_⟩
    · refine ⟨_, rfl, _, .int (sgn q r), rfl, .int _, _, rfl, iteF ?_⟩
      have ne : ∀ {x y : Int}, x = y → (!decide (V.int x = V.int y)) = false := fun e => by rw [e, decide_eq_true rfl]; rfl
      unfold sgn
      refine ⟨_, rfl, _, rfl, _, rfl, rfl, _, rfl, ?_⟩
      refine ite2 (fun e => ?_) (fun e => ?_)
      · have e' : L = R := by have := of_decide_eq_true e; injection this
        rw [hL, hR] at e'
        refine ⟨rfl, _, rfl, ?_⟩
        rw [ne (by rw [if_pos e'])]
        exact iteF ⟨rfl, rfl⟩
      · have e' : ¬ L = R := fun z => e (by rw [z]; exact decide_eq_true rfl)
        refine ⟨_, rfl, _, rfl, _, _, rfl, rfl, _, rfl, ?_⟩
        refine ite2 (fun f => ?_) (fun f => ?_)
        · have f' : R < L := of_decide_eq_true f
          rw [hL, hR] at f' e'
          refine ⟨rfl, _, rfl, ?_⟩
          rw [ne (by rw [if_neg e', if_pos f'])]
          exact iteF ⟨rfl, rfl⟩
        · have f' : ¬ R < L := fun z => f (decide_eq_true z)
          rw [hL, hR] at f' e'
          refine ⟨_, rfl, rfl, _, rfl, ?_⟩
          rw [ne (by rw [if_neg e', if_neg f'])]
          exact iteF ⟨rfl, rfl⟩
    rintro σ' He ⟨rfl, rfl⟩
    -- the quotient
    refine ⟨fun σ' H' => Same H H' ∧ ∃ v : V, σ' = [some (.ref pq), some (.ref pr), some (.int L), some (.int R), some (.int (sgn q r)), some v] ∧ (r.num = 0 → v = .str "zero") ∧ (r.num ≠ 0 → RtV K H' v (q * r⁻¹)), ?_, ?_⟩
    · exact ⟨_, rfl, _, rfl, _, _, q, r, rfl, r1.same tc, r2.same tc, z1, z2, fun e H' s' => ⟨tc.trans s', _, rfl, fun _ => rfl, fun n => absurd e n⟩, fun e p H' s' n' e' => ⟨tc.trans s', _, rfl, fun z => absurd z e, fun _ => ⟨p, rfl, SqT.of e'⟩⟩⟩
    rintro σ' Hf ⟨tf, x, rfl, f0, f1⟩
    have Sf1 := tf.seqT S1
    have Sf2 := tf.seqT S2
    refine ⟨_, rfl, pr, _, 0, _, rfl, rfl, Sf2, atI_nat rfl, rfl, _, rfl, ?_⟩
    refine ite2 (fun e => ?_) (fun e => ?_)
    · have e' : r.num = 0 := by have := of_decide_eq_true e; injection this
      have := f0 e'
      subst this
      refine ⟨_, rfl, rfl, ?_⟩
      show Q (.bl (decide (V.str "zero" = V.str "zero"))) Hf
      rw [decide_eq_true rfl]
      exact k Hf tf
    · have e' : r.num ≠ 0 := fun z => e (by rw [z]; exact decide_eq_true rfl)
      have fx := f1 e'
      refine ⟨_, rfl, _, rfl, pq, _, 0, _, rfl, rfl, Sf1, atI_nat rfl, _, rfl, pr, _, 1, _, rfl, rfl, Sf2, atI_nat rfl, _, _, rfl, rfl, wm y1.1 d2, _, rfl, pq, _, 1, _, rfl, rfl, Sf1, atI_nat rfl, _, rfl, pr, _, 0, _, rfl, rfl, Sf2, atI_nat rfl, _, _, rfl, rfl, wm d1 y2.1, ?_⟩
      refine ⟨_, _, rfl, ?_, ?_, fun p2 H2 s2 n2 e2 => ?_⟩
      · have h1 := q.den_pos
        exact Int.mul_ne_zero (by omega) e'
      · exact bd_of (wide_lt d1 y2.1) (by decide)
      · have e2' : H2 p2 = some (.tup [.int (Rat.divInt (q.num * (r.den : Int)) ((q.den : Int) * r.num)).num, .int ((Rat.divInt (q.num * (r.den : Int)) ((q.den : Int) * r.num)).den : Int)]) := e2
        rw [K01M.over_law] at e2'
        exact ⟨_, _, q * r⁻¹, rfl, fx.same s2, ⟨p2, rfl, SqT.of e2'⟩, den_times q r⁻¹ y1.2 (den_inv r y2), k H2 (tf.trans s2)⟩
end
end K01
set_option Elab.async false
set_option linter.all false
set_option maxRecDepth 100000
set_option maxHeartbeats 4000000
set_option exponentiation.threshold 20000
namespace K01
open PySem L2
mutual
theorem Dp.same {K : PySem.W.Frag} {H H' : Hp} (s : Same H H') : ∀ {v : V} {d : PyData}, Dp K H v d → Dp K H' v d
  | _, _, .non => .non
  | _, _, .bl b => .bl b
  | _, _, .int i => .int i
  | _, _, .str x => .str x
  | _, _, .lst h a => .lst (s.seq h) (DpAll.same s a)
  | _, _, .tup h a => .tup (s.seqT h) (DpAll.same s a)
theorem DpAll.same {K : PySem.W.Frag} {H H' : Hp} (s : Same H H') : ∀ {vs : List V} {ds : List PyData}, DpAll K H vs ds → DpAll K H' vs ds
  | _, _, .nil => .nil
  | _, _, .cons a b => .cons (Dp.same s a) (DpAll.same s b)
end
def txt (q : Rat) : Str := if (q.den : Int) = 1 then Str.ofString (toString q.num) else (Str.ofString (toString q.num) ++ "/") ++ Str.ofString (toString (q.den : Int))
theorem log_small {i : Int} (h : i.natAbs < 2 ^ 100) : i.natAbs.log2 < 1920 := Nat.lt_of_le_of_lt (log_le (k := 99) h) (by decide)
theorem txt_len {i : Int} (h : i.natAbs < 2 ^ 100) : (Str.ofString (toString i)).length ≤ 101 := by
  rw [ofString_length]
  exact int_text_length_le (k := 100) (by decide) (Nat.lt_of_le_of_lt (log_le (k := 99) h) (by decide))
/-- a list or a tuple of ratios -/
def RtSeq (K : PySem.W.Frag) (H : Hp) (v : V) (qs : List Rat) : Prop := ∃ (a : Addr) (xs : List V), v = .ref a ∧ (SqL K H a xs ∨ SqT K H a xs) ∧ xs.length = qs.length ∧ ∀ (i : Nat) (x : V) (q : Rat), xs[i]? = some x → qs[i]? = some q → RtV K H x q
def sumQ (qs : List Rat) : Rat := qs.foldl (· + ·) 0
theorem sum_more {qs : List Rat} {i : Nat} {q : Rat} (h : qs[i]? = some q) : sumQ (qs.take (i + 1)) = sumQ (qs.take i) + q := by
  unfold sumQ
  rw [List.take_succ, h, List.foldl_append]
  rfl
def spSum (K : PySem.W.Frag) : Sp := fun vs H Q _ => ∃ (v : V) (qs : List Rat), vs = [v] ∧ RtSeq K H v qs ∧ qs.length ≤ 8 ∧ (∀ q ∈ qs, Sz 100 q) ∧ GiveRt Q H (sumQ qs)
def spText (K : PySem.W.Frag) : Sp := fun vs H Q _ => ∃ (v : V) (q : Rat), vs = [v] ∧ RtV K H v q ∧ Sz 100 q ∧ Q (.str (txt q)) H
theorem sum_step (total B : Int) (q : Rat) (hB : B ≠ 0) (hd : (q.den : Int) ∣ B) : Rat.divInt (total + q.num * (B / (q.den : Int))) B = Rat.divInt total B + q := by
  obtain ⟨c, hc⟩ := hd
  have d0 : (q.den : Int) ≠ 0 := by have := q.den_pos; omega
  have e1 : B / (q.den : Int) = c := by rw [hc]; exact Int.mul_ediv_cancel_left c d0
  have c0 : c ≠ 0 := by intro z; rw [z, Int.mul_zero] at hc; exact hB hc
  have e2 : q = Rat.divInt (q.num * c) B := by
    rw [hc, Rat.divInt_mul_right c0, Rat.num_divInt_den]
  rw [e1]
  have e3 : Rat.divInt total B + q = Rat.divInt total B + Rat.divInt (q.num * c) B := by rw [← e2]
  rw [e3, Rat.divInt_add_divInt _ _ hB hB, ← Int.add_mul, Rat.divInt_mul_right hB]
section
variable {P : Program} {w : World} {K : PySem.W.Frag} {mg : Str → Option Value} {base : Heap}
theorem ok_text (T : Tx K mg) : FnOk P w K mg base CX0 1 T.ratio_text.f T.ratio_text.fd ["one"] (spText K) := by
  refine T.ratio_text.F.ok scratio_text (fun vs H Q E h => ?_) (fun cdv A outer s H vs Q E hr h => ?_)
  · obtain ⟨_, _, rfl, _⟩ := h
    rfl
  · obtain ⟨v, q, rfl, ⟨p, rfl, S⟩, z, k⟩ := h
    refine ⟨_, (pss_cons (ps_asg (pv 0) (pg_tup (by rfl) (pgs_cons (pg_name (i := 1) scratio_text.nd rfl (Or.inl rfl)) (pgs_cons (pg_name (i := 2) scratio_text.nd rfl (Or.inl rfl)) pgs_nil))))
  (pss_one (ps_ret (pe_ifExp (pt_cmpR op_eq (pv 2) pe_int (nomark _)) (pe_callTy call_str_int (by rfl) T.str (by decide +kernel) (pa_cons (pv 1) pa_nil)) (pe_joined (PJ.cons (pe_fmt (pv 1)) (PJ.cons pe_str (PJ.cons (pe_fmt (pv 2)) PJ.nil)))))))), ?_⟩
    have b2 : ((q.den : Int)).natAbs < 2 ^ 100 := z.2
    refine ⟨_, rfl, p, _, rfl, S, rfl, _, _, rfl, _, _, rfl, rfl, ?_⟩
    unfold txt at k
    refine ⟨_, rfl, rfl, _, rfl, ?_⟩
    refine ite2 (fun e => ?_) (fun e => ?_)
    · have e' : (q.den : Int) = 1 := by have := of_decide_eq_true e; injection this
      rw [if_pos e'] at k
      exact ⟨_, rfl, _, rfl, log_small z.1, k⟩
    · have e' : ¬ (q.den : Int) = 1 := fun f => e (by rw [f]; exact decide_eq_true rfl)
      rw [if_neg e'] at k
      have l1 := txt_len z.1
      have l2 := txt_len b2
      have big : sizeLine = 16777216 := sizeLine_eq
      refine ⟨_, rfl, .inr ⟨_, rfl, log_small z.1, _, rfl, ?_, _, rfl, ?_, _, rfl, .inr ⟨_, rfl, log_small b2, _, rfl, ?_, ?_⟩⟩⟩
      · rw [Str.empty_append, big]; omega
      · rw [Str.empty_append, Str.length_append, big]
        have : (Str.ofString "/").length = 1 := by decide
        omega
      · rw [Str.empty_append, Str.length_append, Str.length_append, big]
        have : (Str.ofString "/").length = 1 := by decide
        omega
      · show Q (.str (((Str.empty ++ Str.ofString (toString q.num)) ++ "/") ++ Str.ofString (toString (q.den : Int)))) H
        rw [Str.empty_append]
        exact k
theorem ok_sum (T : Tx K mg) : FnOk P w K mg base CX0 4 T.sum_of.f T.sum_of.fd ["ratios"] (spSum K) := by
  have Gmake : FnOk P w K mg base (L2.CX P w) 3 T.make_ratio.f T.make_ratio.fd ["top", "bottom"] (spMake K T.C) := ok_make T
  obtain ⟨ds, hv, hb⟩ := T.make_ratio.b 1 (by decide)
  cases hv
  refine T.sum_of.F.ok scsum_of (fun vs H Q E h => ?_) (fun cdv A outer s H vs Q E hr h => ?_)
  · obtain ⟨_, _, rfl, _⟩ := h
    rfl
  · obtain ⟨v, qs, rfl, ⟨a, xs, rfl, hS, hl, hx⟩, l8, hz, k⟩ := h
    refine ⟨_, (pss_cons (ps_set (i := 1) scsum_of.nd rfl (Or.inl rfl) pe_int)
  (cut (ps_for PassesOwn.never rfl (pi_or (pi_list (pv 0)) (pi_tup (pv 0))) (pg_name (i := 2) scsum_of.nd rfl (Or.inl rfl))
  (pss_one (ps_set (i := 1) scsum_of.nd rfl (Or.inl rfl) (pe_callBfun cr_lcm (by rfl) T.glcm (pa_cons (pv 1) (pa_cons (pe_ix ix_tup (pv 2) pe_int (fun _ _ => rfl)) pa_nil))))))
  (pss_cons (ps_set (i := 3) scsum_of.nd rfl (Or.inl rfl) pe_int)
  (cut (ps_for PassesOwn.never rfl (pi_or (pi_list (pv 0)) (pi_tup (pv 0))) (pg_name (i := 2) scsum_of.nd rfl (Or.inl rfl))
  (pss_one (ps_aug (i := 3) scsum_of.nd rfl (.inl rfl) (pe_op op_mulW (pe_ix ix_tup (pv 2) pe_int (fun _ _ => rfl)) (pe_op op_fdivW (pv 1) (pe_ix ix_tup (pv 2) pe_int (fun _ _ => rfl)))) ip_add)))
  (pss_one (ps_ret (pe_call Gmake (hr.mono (by decide)) rfl T.make_ratio.g T.make_ratio.F.kp hb .nil passL (pa_cons (pv 3) (pa_cons (pv 1) pa_nil))))))))), ?_⟩
    have item : ∀ (i : Nat) (x : V), xs[i]? = some x → ∃ q p, x = .ref p ∧ qs[i]? = some q ∧ SqT K H p [.int q.num, .int (q.den : Int)] ∧ Sz 100 q ∧ i < qs.length := by
      intro i x hi
      have il : i < xs.length := (List.getElem?_eq_some_iff.mp hi).1
      have hq : qs[i]? = some (qs[i]'(by omega)) := List.getElem?_eq_getElem _
      obtain ⟨p, e, S⟩ := hx i x _ hi hq
      exact ⟨_, p, e, hq, S, hz _ (List.mem_of_getElem? hq), by omega⟩
    refine ⟨fun σ' H' => H' = H ∧ ∃ (B : Nat) (v2 : Option V), σ' = [some (.ref a), some (.int (B : Int)), v2, none] ∧ 0 < B ∧ B < 2 ^ 801 ∧ ∀ q ∈ qs, q.den ∣ B, ?_, ?_⟩
    · have big : ∀ {i B : Nat}, i ≤ 8 → B ≤ 2 ^ (100 * i) → B < 2 ^ 801 := fun h l => Nat.lt_of_le_of_lt l (Nat.pow_lt_pow_right (by decide) (by omega))
      rcases hS with hS | hS
      · refine .inl ⟨_, rfl, a, rfl, ⟨_, hS⟩, for_list (K := K) (a := a) (xs := xs) (fun i σ H2 => H2 = H ∧ ∃ (B : Nat) (v2 : Option V), σ = [some (.ref a), some (.int (B : Int)), v2, none] ∧ 0 < B ∧ B ≤ 2 ^ (100 * i) ∧ ∀ q ∈ qs.take i, q.den ∣ B)
          ⟨rfl, 1, _, rfl, by decide, by decide, by simp⟩ (fun i σ H2 _ ⟨e, _⟩ => by rw [e]; exact hS) ?_ ?_⟩
        · rintro i x σ H2 hi ⟨rfl, B, v2, rfl, B0, Bl, dv⟩
          obtain ⟨q, p, rfl, hq, S, zq, il⟩ := item i x hi
          refine ⟨_, rfl, _, rfl, p, _, 1, _, rfl, rfl, S, atI_nat rfl, (B : Int), (q.den : Int), rfl, bd_of (big (by omega) Bl) (by decide), bd_of zq.2 (by decide), rfl, Nat.lcm B q.den, _, rfl, Nat.lcm_pos B0 q.den_pos, ?_, ?_⟩
          · have h1 : Nat.lcm B q.den ≤ B * q.den := by unfold Nat.lcm; exact Nat.div_le_self _ _
            have h2 : B * q.den ≤ 2 ^ (100 * i) * 2 ^ 100 := Nat.mul_le_mul Bl (Nat.le_of_lt zq.2)
            rw [← Nat.pow_add] at h2
            exact Nat.le_trans h1 h2
          · intro q' hq'
            rw [List.take_succ, hq] at hq'
            rcases List.mem_append.mp hq' with h | h
            · exact Nat.dvd_trans (dv q' h) (Nat.dvd_lcm_left _ _)
            · have : q' = q := by simpa using h
              rw [this]; exact Nat.dvd_lcm_right _ _
        · rintro σ H2 ⟨rfl, B, v2, rfl, B0, Bl, dv⟩
          rw [hl, List.take_length] at dv
          exact ⟨rfl, B, v2, rfl, B0, big (by omega) Bl, dv⟩
      · refine .inr ⟨_, rfl, a, rfl, ⟨_, hS⟩, for_tup (K := K) (a := a) (xs := xs) (fun i σ H2 => H2 = H ∧ ∃ (B : Nat) (v2 : Option V), σ = [some (.ref a), some (.int (B : Int)), v2, none] ∧ 0 < B ∧ B ≤ 2 ^ (100 * i) ∧ ∀ q ∈ qs.take i, q.den ∣ B)
          ⟨rfl, 1, _, rfl, by decide, by decide, by simp⟩ (fun i σ H2 _ ⟨e, _⟩ => by rw [e]; exact hS) ?_ ?_⟩
        · rintro i x σ H2 hi ⟨rfl, B, v2, rfl, B0, Bl, dv⟩
          obtain ⟨q, p, rfl, hq, S, zq, il⟩ := item i x hi
          refine ⟨_, rfl, _, rfl, p, _, 1, _, rfl, rfl, S, atI_nat rfl, (B : Int), (q.den : Int), rfl, bd_of (big (by omega) Bl) (by decide), bd_of zq.2 (by decide), rfl, Nat.lcm B q.den, _, rfl, Nat.lcm_pos B0 q.den_pos, ?_, ?_⟩
          · have h1 : Nat.lcm B q.den ≤ B * q.den := by unfold Nat.lcm; exact Nat.div_le_self _ _
            have h2 : B * q.den ≤ 2 ^ (100 * i) * 2 ^ 100 := Nat.mul_le_mul Bl (Nat.le_of_lt zq.2)
            rw [← Nat.pow_add] at h2
            exact Nat.le_trans h1 h2
          · intro q' hq'
            rw [List.take_succ, hq] at hq'
            rcases List.mem_append.mp hq' with h | h
            · exact Nat.dvd_trans (dv q' h) (Nat.dvd_lcm_left _ _)
            · have : q' = q := by simpa using h
              rw [this]; exact Nat.dvd_lcm_right _ _
        · rintro σ H2 ⟨rfl, B, v2, rfl, B0, Bl, dv⟩
          rw [hl, List.take_length] at dv
          exact ⟨rfl, B, v2, rfl, B0, big (by omega) Bl, dv⟩
    rintro σ' H' ⟨rfl, B, v2, rfl, B0, Bl, dv⟩
    have nB : (B : Int) ≠ 0 := by omega
    have wd : ∀ (i : Int) (q : Rat), Sz 100 q → CDivW i (q.den : Int) := fun i q z => wide_div (b := 100) (by have := q.den_pos; omega) z.2 (by decide) (by decide)
    have wm : ∀ (q : Rat), Sz 100 q → CMulW q.num ((B : Int) / (q.den : Int)) := fun q z => wide_mul (a := 100) (b := 801) z.1 (Nat.lt_of_le_of_lt (show B / q.den ≤ B from Nat.div_le_self _ _) Bl) (by decide) (by decide) (by decide)
    refine ⟨fun σ' H2 => H2 = H' ∧ ∃ (total : Int) (v2 : Option V), σ' = [some (.ref a), some (.int (B : Int)), v2, some (.int total)] ∧ Rat.divInt total (B : Int) = sumQ qs, ?_, ?_⟩
    · rcases hS with hS | hS
      · refine .inl ⟨_, rfl, a, rfl, ⟨_, hS⟩, for_list (K := K) (a := a) (xs := xs) (fun i σ H2 => H2 = H' ∧ ∃ (total : Int) (v2 : Option V), σ = [some (.ref a), some (.int (B : Int)), v2, some (.int total)] ∧ Rat.divInt total (B : Int) = sumQ (qs.take i))
          ⟨rfl, 0, _, rfl, Rat.zero_divInt _⟩ (fun i σ H2 _ ⟨e, _⟩ => by rw [e]; exact hS) ?_ ?_⟩
        · rintro i x σ H2 hi ⟨rfl, total, v2, rfl, et⟩
          obtain ⟨q, p, rfl, hq, S, zq, il⟩ := item i x hi
          refine ⟨_, rfl, _, rfl, p, _, 0, _, rfl, rfl, S, atI_nat rfl, _, rfl, _, rfl, p, _, 1, _, rfl, rfl, S, atI_nat rfl, _, _, rfl, rfl, wd _ q zq, _, _, rfl, rfl, wm q zq, _, _, rfl, rfl, rfl, _, _, rfl, ?_⟩
          rw [sum_more hq, ← et]
          exact sum_step total (B : Int) q nB (Int.ofNat_dvd.mpr (dv q (List.mem_of_getElem? hq)))
        · rintro σ H2 ⟨rfl, total, v2, rfl, et⟩
          rw [hl, List.take_length] at et
          exact ⟨rfl, total, v2, rfl, et⟩
      · refine .inr ⟨_, rfl, a, rfl, ⟨_, hS⟩, for_tup (K := K) (a := a) (xs := xs) (fun i σ H2 => H2 = H' ∧ ∃ (total : Int) (v2 : Option V), σ = [some (.ref a), some (.int (B : Int)), v2, some (.int total)] ∧ Rat.divInt total (B : Int) = sumQ (qs.take i))
          ⟨rfl, 0, _, rfl, Rat.zero_divInt _⟩ (fun i σ H2 _ ⟨e, _⟩ => by rw [e]; exact hS) ?_ ?_⟩
        · rintro i x σ H2 hi ⟨rfl, total, v2, rfl, et⟩
          obtain ⟨q, p, rfl, hq, S, zq, il⟩ := item i x hi
          refine ⟨_, rfl, _, rfl, p, _, 0, _, rfl, rfl, S, atI_nat rfl, _, rfl, _, rfl, p, _, 1, _, rfl, rfl, S, atI_nat rfl, _, _, rfl, rfl, wd _ q zq, _, _, rfl, rfl, wm q zq, _, _, rfl, rfl, rfl, _, _, rfl, ?_⟩
          rw [sum_more hq, ← et]
          exact sum_step total (B : Int) q nB (Int.ofNat_dvd.mpr (dv q (List.mem_of_getElem? hq)))
        · rintro σ H2 ⟨rfl, total, v2, rfl, et⟩
          rw [hl, List.take_length] at et
          exact ⟨rfl, total, v2, rfl, et⟩
    rintro σ' H2 ⟨rfl, total, v2', rfl, et⟩
    refine ⟨_, rfl, _, rfl, _, _, .int total, .int (B : Int), rfl, .int _, .int _, (fun z => by cases z), fun _ z => ?_, fun t b e1 e2 b0 => ?_⟩
    · exfalso
      have : okB (.int (B : Int)) = true := decide_eq_true nB
      rw [this] at z; cases z
    · cases e1
      cases e2
      rw [et]
      exact ⟨bd_of (show B < 2 ^ 801 from Bl) (by decide), k⟩
end
end K01
set_option Elab.async false
set_option linter.all false
set_option maxRecDepth 100000
set_option maxHeartbeats 4000000
set_option exponentiation.threshold 20000
namespace K01
open PySem L2
/-- a call by keywords of a def with defaults and no keyword-only parameters -/
theorem kbinds1 {K : PySem.W.Frag} {x qual : Str} {params : Arguments} {body : List Stmt} {scope : Scope} {dvs : List V} {f : Addr} {fd : FuncData} {ps : List Str} (F : FunD K x qual params body scope dvs [] f fd) (n : Nat) (ks : List Str)
    (g : {α : Type} → List α → List α → List α → List α) (hd : dvs ≠ [])
    (hrel : ∀ {vs ds zs : List V} {us its ws : List Value}, Vals vs us → Vals ds its → Vals zs ws → Vals (g vs ds zs) (g us its ws))
    (h : ∀ (T : Addr) (kV doc pm : Value) (an : Option Addr) (cdv ct : Value) (us its ws : List Value), us.length = n → its.length = dvs.length → ws.length = ks.length →
      ∃ k, bindArgs (PySem.W.fnOf x qual params body scope (.ref T) kV doc pm an cdv ct) ⟨us, ks.zip ws⟩ = seqItems? (.ref T) >>= k ∧ k (some its.toArray) = pure (ps.zip (g us its ws))) :
    ∃ its : List Value, KBn K fd ps n ks (fun us ws => g us its ws) (fun vs zs => g vs dvs zs) := by
  obtain ⟨oc, od, dV, kV, doc, pm, an, cdv, ct, osl, rfl, lk, hcd, hD, hK⟩ := F.ex
  rcases hD with ⟨e, _⟩ | ⟨_, T, o, its, m, rfl, lT, oT, rT⟩
  · exact absurd e hd
  · refine ⟨its, ⟨fun s us ws X l1 l2 => ?_, fun r1 r2 => hrel r1 rT r2⟩⟩
    obtain ⟨k, e1, e2⟩ := h T kV doc pm an cdv ct us its ws l1 rT.length.symm l2
    refine BindsTo.of_looks fun M => ?_
    rw [e1]
    exact looks_items X lT oT (.of_pure e2)
def gLow {α : Type} (us its ws : List α) : List α := us ++ (ws ++ its.drop 1)
def gHigh {α : Type} (us its ws : List α) : List α := us ++ (its.take 1 ++ ws)
theorem Vals.take' {vs : List V} {us : List Value} (n : Nat) (r : Vals vs us) : Vals (vs.take n) (us.take n) := by
  induction r generalizing n with
  | nil => simp; exact .nil
  | cons a b ih =>
    cases n with
    | zero => exact .nil
    | succ n => exact .cons a (ih n)
theorem kw_low {K : PySem.W.Frag} {mg : Str → Option Value} (T : Tx K mg) : ∃ its, KBn K T.is_whole.fd ["thing", "low", "high"] 1 ["low"] (fun us ws => gLow us its ws) (fun vs zs => gLow vs [.non, .non] zs) :=
  kbinds1 T.is_whole.F 1 ["low"] gLow (by simp) (fun a b c => a.append (c.append (b.drop 1))) fun T kV doc pm an cdv ct us its ws h1 h2 h3 =>
    match us, its, ws, h1, h2, h3 with
    | [_], [_, _], [_], _, _, _ => ⟨_, rfl, rfl⟩
theorem kw_high {K : PySem.W.Frag} {mg : Str → Option Value} (T : Tx K mg) : ∃ its, KBn K T.is_whole.fd ["thing", "low", "high"] 1 ["high"] (fun us ws => gHigh us its ws) (fun vs zs => gHigh vs [.non, .non] zs) :=
  kbinds1 T.is_whole.F 1 ["high"] gHigh (by simp) (fun a b c => a.append ((Vals.take' 1 b).append c)) fun T kV doc pm an cdv ct us its ws h1 h2 h3 =>
    match us, its, ws, h1, h2, h3 with
    | [_], [_, _], [_], _, _, _ => ⟨_, rfl, rfl⟩
def spThings (K : PySem.W.Frag) : Sp := fun vs H Q _ => ∃ h c : Addr, vs = [.ref h] ∧ Hand H h c ∧ ∀ (l : Addr) (xs : List V) (ds : List PyData) (H' : Hp), Kept h H H' → Hand H' h c → H' l = some (.lst xs) → DpAll K H' xs ds → (∀ d ∈ ds, smR d) → Q (.ref l) H'
section
variable {P : Program} {w : World} {K : PySem.W.Frag} {mg : Str → Option Value} {base : Heap}
theorem ok_things (T : Tx K mg) : FnOk P w K mg base CX0 4 T.law_things.f T.law_things.fd ["_law_hand_here"] (spThings K) := by
  have Glaw_big : FnOk P w K mg base CX0 3 T.law_big.f T.law_big.fd ["_law_hand_here"] spBig := ok_big T
  refine T.law_things.F.ok sc_law_things (fun vs H Q E h => ?_) (fun cdv A outer s H vs Q E hr h => ?_)
  · obtain ⟨_, _, rfl, _⟩ := h
    rfl
  · obtain ⟨h, c, rfl, hh, k⟩ := h
    refine ⟨_, (cut (ps_set (i := 1) sc_law_things.nd rfl (Or.inl rfl) (pe_op op_add pe_int (pe_call Glaw_big (hr.mono (by decide)) rfl T.law_big.g T.law_big.F.kp T.law_big.b .nil pass0 (pa_cons (pv 0) pa_nil))))
  (pss_one (ps_ret (pe_lst (pa_cons (pe_tup (pa_cons (pe_op op_mulW pe_int (pv 1)) (pa_cons pe_int pa_nil))) (pa_cons (pe_tup (pa_cons (pv 1) (pa_cons pe_int pa_nil))) (pa_cons (pe_tup (pa_cons (pv 1) (pa_cons (pe_un un_neg pe_int) pa_nil))) (pa_cons (pe_tup (pa_cons pe_bl (pa_cons pe_int pa_nil))) (pa_cons (pe_tup (pa_cons pe_int (pa_cons pe_bl pa_nil))) (pa_cons (pe_lst (pa_cons pe_int (pa_cons pe_int pa_nil))) (pa_cons (pe_tup (pa_cons pe_int (pa_cons pe_int (pa_cons pe_int pa_nil)))) (pa_cons (pe_tup (pa_cons pe_int (pa_cons (pv 1) pa_nil))) (pa_cons (pv 1) (pa_cons pe_non (pa_cons pe_str (pa_cons (pe_tup (pa_cons (pv 1) (pa_cons (pe_op op_add (pv 1) pe_int) pa_nil))) (pa_cons (pe_tup (pa_cons (pe_un un_neg (pv 1)) (pa_cons pe_int pa_nil))) (pa_cons (pe_tup pa_nil) pa_nil)))))))))))))))))), ?_⟩
    refine ⟨fun σ' H' => Kept h H H' ∧ Hand H' h c ∧ ∃ n : Int, 1 ≤ n ∧ n ≤ 1000000000000000000 ∧ σ' = [some (.ref h), some (.int n)], ?_, ?_⟩
    · exact ⟨_, rfl, h, c, rfl, hh, fun r H1 r0 r1 kp hh1 => ⟨_, _, rfl, rfl, kp, hh1, _, by omega, by omega, rfl⟩⟩
    rintro σ' H1 ⟨kp, hh1, n, n0, n1, rfl⟩
    have nb : n.natAbs < 2 ^ 100 := by
      have : n.natAbs < 2 ^ 60 := by
        have e : (2 : Nat) ^ 60 = 1152921504606846976 := by decide
        rw [e]; omega
      exact bd_of this (by decide)
    have z2 : (2 : Nat) ≤ sizeLine := by decide
    refine ⟨_, rfl, _, _, rfl, rfl, wide_mul (a := 8) (b := 100) (by decide) nb (by decide) (by decide) (by decide), z2, fun p1 f1 => ?_⟩
    refine ⟨_, rfl, z2, fun p2 f2 => ?_⟩
    refine ⟨_, rfl, _, rfl, z2, fun p3 f3 => ?_⟩
    refine ⟨z2, fun p4 f4 => ?_⟩
    refine ⟨z2, fun p5 f5 => ?_⟩
    refine ⟨z2, fun p6 f6 => ?_⟩
    refine ⟨(by show 3 ≤ sizeLine; decide), fun p7 f7 => ?_⟩
    refine ⟨_, rfl, z2, fun p8 f8 => ?_⟩
    refine ⟨_, rfl, _, rfl, _, rfl, _, _, rfl, rfl, z2, fun p9 f9 => ?_⟩
    refine ⟨_, rfl, _, rfl, z2, fun p10 f10 => ?_⟩
    refine ⟨(by show 0 ≤ sizeLine; decide), fun p11 f11 => ?_⟩
    refine ⟨(by show 14 ≤ sizeLine; decide), fun l fl => ?_⟩
    have s12 := same_new (o := .lst [.ref p1, .ref p2, .ref p3, .ref p4, .ref p5, .ref p6, .ref p7, .ref p8, .int n, .non, .str "1/2", .ref p9, .ref p10, .ref p11]) fl
    have s11 := (same_new (o := .tup []) f11).trans s12
    have s10 := (same_new (o := .tup [.int (-n), .int 1]) f10).trans s11
    have s9 := (same_new (o := .tup [.int n, .int (n + 1)]) f9).trans s10
    have s8 := (same_new (o := .tup [.int 0, .int n]) f8).trans s9
    have s7 := (same_new (o := .tup [.int 1, .int 2, .int 3]) f7).trans s8
    have s6 := (same_new (o := .lst [.int 1, .int 2]) f6).trans s7
    have s5 := (same_new (o := .tup [.int 1, .bl true]) f5).trans s6
    have s4 := (same_new (o := .tup [.bl true, .int 1]) f4).trans s5
    have s3 := (same_new (o := .tup [.int n, .int (-1)]) f3).trans s4
    have s2 := (same_new (o := .tup [.int n, .int 0]) f2).trans s3
    have s1 := (same_new (o := .tup [.int (2 * n), .int 4]) f1).trans s2
    refine k l _ [.tuple [.int (2 * n), .int 4], .tuple [.int n, .int 0], .tuple [.int n, .int (-1)], .tuple [.bool true, .int 1], .tuple [.int 1, .bool true], .list [.int 1, .int 2], .tuple [.int 1, .int 2, .int 3], .tuple [.int 0, .int n], .int n, .none, .str "1/2", .tuple [.int n, .int (n + 1)], .tuple [.int (-n), .int 1], .tuple []] _ (kp.trans (K01.Same.kept s1)) (hh1.same s1) upd_same ?_ ?_
    · exact .cons (.tup (SqT.of (s2 _ _ upd_same)) (.cons (.int _) (.cons (.int _) .nil)))
        (.cons (.tup (SqT.of (s3 _ _ upd_same)) (.cons (.int _) (.cons (.int _) .nil)))
        (.cons (.tup (SqT.of (s4 _ _ upd_same)) (.cons (.int _) (.cons (.int _) .nil)))
        (.cons (.tup (SqT.of (s5 _ _ upd_same)) (.cons (.bl _) (.cons (.int _) .nil)))
        (.cons (.tup (SqT.of (s6 _ _ upd_same)) (.cons (.int _) (.cons (.bl _) .nil)))
        (.cons (.lst (SqL.of (s7 _ _ upd_same)) (.cons (.int _) (.cons (.int _) .nil)))
        (.cons (.tup (SqT.of (s8 _ _ upd_same)) (.cons (.int _) (.cons (.int _) (.cons (.int _) .nil))))
        (.cons (.tup (SqT.of (s9 _ _ upd_same)) (.cons (.int _) (.cons (.int _) .nil)))
        (.cons (.int _) (.cons .non (.cons (.str _)
        (.cons (.tup (SqT.of (s10 _ _ upd_same)) (.cons (.int _) (.cons (.int _) .nil)))
        (.cons (.tup (SqT.of (s11 _ _ upd_same)) (.cons (.int _) (.cons (.int _) .nil)))
        (.cons (.tup (SqT.of (s12 _ _ upd_same)) .nil) .nil)))))))))))))
    · have e1 : (4 : Nat) < 2 ^ 1990 := bd_of (m := 3) (by decide) (by decide)
      have e2 : (1 : Nat) < 2 ^ 1990 := bd_of (m := 3) (by decide) (by decide)
      have e0 : (0 : Nat) < 2 ^ 1990 := bd_of (m := 3) (by decide) (by decide)
      have e3 : (2 : Nat) < 2 ^ 1990 := bd_of (m := 3) (by decide) (by decide)
      have en : n.natAbs < 2 ^ 1990 := bd_of nb (by decide)
      have en1 : (n + 1).natAbs < 2 ^ 1990 := by
        have : (n + 1).natAbs < 2 ^ 60 := by
          have e : (2 : Nat) ^ 60 = 1152921504606846976 := by decide
          rw [e]; omega
        exact bd_of this (by decide)
      intro d hd
      simp only [List.mem_cons, List.not_mem_nil, or_false] at hd
      rcases hd with rfl | rfl | rfl | rfl | rfl | rfl | rfl | rfl | rfl | rfl | rfl | rfl | rfl | rfl
      all_goals first | exact e1 | exact e0 | exact e2 | exact e3 | exact en | exact en1 | exact trivial
end
end K01
set_option Elab.async false
set_option linter.all false
set_option maxRecDepth 100000
set_option maxHeartbeats 8000000
set_option exponentiation.threshold 20000
namespace K01
open PySem L2
abbrev S15 (a h : Addr) (v2 v3 v4 v5 v6 v7 v8 v9 v10 v11 v12 v13 v14 : Option V) : St := [some (.ref a), some (.ref h), v2, v3, v4, v5, v6, v7, v8, v9, v10, v11, v12, v13, v14]
def Odd (K : PySem.W.Frag) (H : Hp) (h : Addr) (v : V) (d : PyData) : Prop := Dp K H v d ∧ (∀ b, d = .int b → b.natAbs < 1000000000000000000) ∧ (∀ p, v = .ref p → p ≠ h ∧ H p = some (.tup [.int 1, .int 2]) ∧ d = .tuple [.int 1, .int 2])
theorem Odd.kept {K : PySem.W.Frag} {H H' : Hp} {h : Addr} {v : V} {d : PyData} (o : Odd K H h v d) (k : Kept h H H') : Odd K H' h v d := by
  obtain ⟨a, bb, c⟩ := o
  refine ⟨?_, bb, fun p e => ?_⟩
  · cases a with
    | non => exact .non
    | bl b => exact .bl b
    | int i => exact .int i
    | str x => exact .str x
    | lst s t =>
      obtain ⟨n, e, q⟩ := c _ rfl
      rw [q]
      exact .tup (SqT.of (k _ _ n e)) (.cons (.int _) (.cons (.int _) .nil))
    | tup s t =>
      obtain ⟨n, e, q⟩ := c _ rfl
      rw [q]
      exact .tup (SqT.of (k _ _ n e)) (.cons (.int _) (.cons (.int _) .nil))
  · obtain ⟨n, e1, q⟩ := c p e
    exact ⟨n, k _ _ n e1, q⟩
theorem b60 {z : Int} (h : z.natAbs < 1000000000000000000) : z.natAbs < 2 ^ 100 := by
  have e : (2 : Nat) ^ 60 = 1152921504606846976 := by decide
  have : z.natAbs < 2 ^ 60 := by rw [e]; exact Nat.lt_trans h (by decide)
  exact bd_of this (by decide)
theorem b61 {z : Int} (h : z.natAbs ≤ 1000000000000000000) : z.natAbs < 2 ^ 100 := by
  have e : (2 : Nat) ^ 60 = 1152921504606846976 := by decide
  have : z.natAbs < 2 ^ 60 := by rw [e]; exact Nat.lt_of_le_of_lt h (by decide)
  exact bd_of this (by decide)
theorem smB_of {d : PyData} (h : ∀ b, d = .int b → b.natAbs < 1000000000000000000) : smB d := by
  cases d with
  | int b =>
    have := h b rfl
    have e : b.natAbs < 2 ^ 60 := by
      have e : (2 : Nat) ^ 60 = 1152921504606846976 := by decide
      rw [e]; omega
    exact bd_of e (by decide)
  | _ => trivial
theorem due_cases (d1 d2 : PyData) : dueD d1 d2 = .str "top" ∨ dueD d1 d2 = .str "bottom" ∨ ∃ t b, b ≠ 0 ∧ d2 = .int b ∧ dueD d1 d2 = ratD (Rat.divInt t b) := by
  cases d1 with
  | int t =>
    cases d2 with
    | int b =>
      by_cases z : b = 0
      · exact .inr (.inl (by show (if b = 0 then _ else _) = _; rw [if_pos z]))
      · exact .inr (.inr ⟨t, b, z, rfl, by show (if b = 0 then _ else _) = _; rw [if_neg z]⟩)
    | _ => exact .inr (.inl rfl)
  | _ => exact .inl rfl
theorem sh_due (d1 d2 : PyData) : SeqAt.shaped (dueD d1 d2) = true := by
  rcases due_cases d1 d2 with e | e | ⟨t, b, _, _, e⟩
  · rw [e]; decide +kernel
  · rw [e]; decide +kernel
  · rw [e]; exact sh_rat _
theorem ev_due (d1 d2 : PyData) : PyData.eqv (dueD d1 d2) (dueD d1 d2) = true := by
  rcases due_cases d1 d2 with e | e | ⟨t, b, _, _, e⟩
  · rw [e]; simp [PyData.eqv]
  · rw [e]; simp [PyData.eqv]
  · rw [e]; exact ev_rat _
theorem den_div (t b : Int) (b0 : b ≠ 0) : (Rat.divInt t b).den ≤ b.natAbs := by
  rw [Rat.den_divInt, if_neg b0]
  exact Nat.div_le_self _ _
theorem num_div (t b : Int) (b0 : b ≠ 0) : (Rat.divInt t b).num.natAbs ≤ t.natAbs := by
  rw [Rat.num_divInt]
  have hd : (b.gcd t : Int) ∣ b.sign * t := Int.dvd_mul_of_dvd_right (Int.gcd_dvd_right ..)
  rw [Int.natAbs_ediv_of_dvd hd, Int.natAbs_mul, Int.natAbs_sign_of_ne_zero b0, Nat.one_mul]
  exact Nat.div_le_self _ _
theorem divInt_one (z : Int) : (Rat.divInt z 1).num = z ∧ (Rat.divInt z 1).den = 1 := by
  rw [Rat.num_divInt, Rat.den_divInt]
  simp
theorem seqT_written {K : PySem.W.Frag} {H : Hp} {a : Addr} {xs : List V} (h : SqT K (fun _ => none) a xs) : SqT K H a xs := Same.seqT (fun _ _ e => by cases e) h
def RtT (H : Hp) (v : V) (q : Rat) : Prop := ∃ p, v = .ref p ∧ H p = some (.tup [.int q.num, .int (q.den : Int)])
theorem RtT.rtv {K : PySem.W.Frag} {H : Hp} {v : V} {q : Rat} (h : RtT H v q) : RtV K H v q := by
  obtain ⟨p, e, h⟩ := h
  exact ⟨p, e, SqT.of h⟩
theorem RtT.same {H H' : Hp} {v : V} {q : Rat} (h : RtT H v q) (s : Same H H') : RtT H' v q := by
  obtain ⟨p, e, h⟩ := h
  exact ⟨p, e, s _ _ h⟩
theorem RtT.kept {H H' : Hp} {v : V} {q : Rat} {h l : Addr} {xs : List V} (r : RtT H v q) (e : H h = some (.lst xs)) (s : Kept h H H') : RtT H' v q := by
  obtain ⟨p, e1, r⟩ := r
  exact ⟨p, e1, s _ _ (ne_of r e (by intro z; cases z)) r⟩
/-- the list at D holds these ratios -/
structure RtList (H : Hp) (D : Addr) (qs : List Rat) : Prop where
  ex : ∃ xs, H D = some (.lst xs) ∧ xs.length = qs.length ∧ ∀ (i : Nat) (x : V) (q : Rat), xs[i]? = some x → qs[i]? = some q → RtT H x q
theorem RtList.same {H H' : Hp} {D : Addr} {qs : List Rat} (r : RtList H D qs) (s : Same H H') : RtList H' D qs := by
  obtain ⟨xs, a, b, c⟩ := r.ex
  exact ⟨⟨xs, s _ _ a, b, fun i x q h1 h2 => (c i x q h1 h2).same s⟩⟩
theorem RtList.kept {H H' : Hp} {D h c : Addr} {qs : List Rat} (r : RtList H D qs) (A : Hand H h c) (n : D ≠ h) (s : Kept h H H') : RtList H' D qs := by
  obtain ⟨xs, a, b, f⟩ := r.ex
  obtain ⟨_, _, _, _, A⟩ := A
  exact ⟨⟨xs, s _ _ n a, b, fun i x q h1 h2 => (f i x q h1 h2).kept (l := h) A.oh s⟩⟩
theorem RtList.put {H : Hp} {D : Addr} {qs : List Rat} {x : V} {q : Rat} {xs : List V} (r : RtList H D qs) (e : H D = some (.lst xs)) (z : RtT H x q) : RtList (upd H D (.lst (xs ++ [x]))) D (qs ++ [q]) := by
  obtain ⟨ys, a, b, c⟩ := r.ex
  rw [e] at a
  cases a
  have ne : ∀ {v : V} {q : Rat}, RtT H v q → RtT (upd H D (.lst (xs ++ [x]))) v q := fun ⟨p, e1, e2⟩ => ⟨p, e1, by rw [upd_ne (ne_of e2 e (by intro z; cases z))]; exact e2⟩
  refine ⟨⟨_, upd_same, by simp [b], fun i y q' h1 h2 => ?_⟩⟩
  rcases Nat.lt_or_ge i xs.length with hi | hi
  · rw [List.getElem?_append_left hi] at h1
    rw [List.getElem?_append_left (by omega)] at h2
    exact ne (c i y q' h1 h2)
  · rw [List.getElem?_append_right hi] at h1
    rw [List.getElem?_append_right (by omega), ← b] at h2
    have i0 : i - xs.length = 0 := by
      rcases Nat.eq_zero_or_pos (i - xs.length) with z | z
      · exact z
      · rw [List.getElem?_eq_none (by simp; omega)] at h1; cases h1
    rw [i0] at h1 h2
    cases h1
    cases h2
    exact ne z
theorem hand_put {H : Hp} {h c D : Addr} {o : HO} (A : Hand H h c) (n : D ≠ h) (m : D ≠ c) : Hand (upd H D o) h c := by
  obtain ⟨cells, i, rest, total, A⟩ := A
  exact ⟨cells, i, rest, total, { A with oh := by rw [upd_ne (Ne.symm n)]; exact A.oh, oc := by rw [upd_ne (Ne.symm m)]; exact A.oc }⟩
theorem Hand.new {H : Hp} {h c D : Addr} (A : Hand H h c) (n : H D = none) : D ≠ h ∧ D ≠ c := by
  obtain ⟨cells, i, rest, total, A⟩ := A
  exact ⟨(ne_of_none A.oh n).symm, (ne_of_none A.oc n).symm⟩
theorem sz_add {q r : Rat} {a : Nat} (z1 : Sz a q) (z2 : Sz 100 r) : Sz (a + 101) (q + r) := by
  have hd : (q + r).den ∣ q.den * r.den := by
    rw [Rat.den_add]
    exact Nat.div_dvd_of_dvd (Nat.gcd_dvd_right _ _)
  have h2 : (q + r).den ≤ q.den * r.den := Nat.le_of_dvd (Nat.mul_pos q.den_pos r.den_pos) hd
  have h3 : q.den * r.den < 2 ^ a * 2 ^ 100 := Nat.mul_lt_mul'' z1.2 z2.2
  have hn : (q + r).num.natAbs ≤ (q.num * r.den + r.num * q.den).natAbs := by
    rw [Rat.num_add]
    have hdv : (((q.num * r.den + r.num * q.den).natAbs.gcd (q.den * r.den) : Nat) : Int) ∣ (q.num * r.den + r.num * q.den) := Int.ofNat_dvd_left.mpr (Nat.gcd_dvd_left _ _)
    rw [Int.natAbs_ediv_of_dvd hdv]
    exact Nat.div_le_self _ _
  have h4 : (q.num * r.den + r.num * q.den).natAbs ≤ q.num.natAbs * r.den + r.num.natAbs * q.den := by
    refine Nat.le_trans (Int.natAbs_add_le _ _) ?_
    rw [Int.natAbs_mul, Int.natAbs_mul]
    exact Nat.le_refl _
  have h5 : q.num.natAbs * r.den < 2 ^ a * 2 ^ 100 := Nat.mul_lt_mul'' z1.1 z2.2
  have h6 : r.num.natAbs * q.den < 2 ^ 100 * 2 ^ a := Nat.mul_lt_mul'' z2.1 z1.2
  rw [Nat.mul_comm (2 ^ 100)] at h6
  rw [← Nat.pow_add] at h3 h5 h6
  have h7 : 2 ^ (a + 101) = 2 ^ (a + 100) + 2 ^ (a + 100) := by
    have : a + 101 = (a + 100) + 1 := rfl
    rw [this, Nat.pow_succ]; omega
  exact ⟨by omega, by omega⟩
theorem sz_sum (qs : List Rat) (hz : ∀ q ∈ qs, Sz 100 q) : ∀ i, i ≤ qs.length → Sz (101 * i + 1) (sumQ (qs.take i))
  | 0, _ => ⟨by show (0 : Int).natAbs < 2 ^ 1; decide, by show 1 < 2 ^ 1; decide⟩
  | i + 1, h => by
    have il : i < qs.length := h
    have hq : qs[i]? = some qs[i] := List.getElem?_eq_getElem _
    rw [sum_more hq]
    have := sz_add (sz_sum qs hz i (Nat.le_of_lt h)) (hz _ (List.getElem_mem il))
    have e : 101 * (i + 1) + 1 = (101 * i + 1) + 101 := by omega
    rw [e]
    exact this
def spLaw (K : PySem.W.Frag) : Sp := fun vs H Q _ => ∃ (a : Addr) (ns : List Int), vs = [.ref a] ∧ SqL K H a (ns.map V.int) ∧ ns.length ≤ 63 ∧ ∀ H', Q (.bl true) H'
end K01
set_option Elab.async false
set_option linter.all false
set_option maxRecDepth 100000
set_option maxHeartbeats 16000000
set_option exponentiation.threshold 20000
namespace K01
open PySem L2
section
variable {P : Program} {w : World} {K : PySem.W.Frag} {mg : Str → Option Value} {base : Heap}
theorem ok_law (f : Addr) (fd : FuncData) (F : Fun K "law" "law" slaw f fd) (T : Tx K mg) : FnOk P w K mg base CX0 6 f fd ["_law_script"] (spLaw K) := by
  have Glaw_hand : FnOk P w K mg base CX0 1 T.law_hand.f T.law_hand.fd ["_law_script"] (spHand K) := ok_hand T.toTxA
  have Glaw_take : FnOk P w K mg base CX0 2 T.law_take.f T.law_take.fd ["_law_hand_here", "_law_many"] spTake := ok_take T.toTxA
  have Glaw_number_or_odd : FnOk P w K mg base CX0 5 T.law_number_or_odd.f T.law_number_or_odd.fd ["_law_hand_here"] (spNumOdd K) := ok_num_odd T
  have Glaw_due : FnOk P w K mg base CX0 3 T.law_due.f T.law_due.fd ["_law_top", "_law_bottom"] (spDue K) := ok_due T
  have Glaw_make : FnOk P w K mg base CX0 4 T.law_make.f T.law_make.fd ["_law_top", "_law_bottom"] (spDue K) := ok_law_make T
  have Glaw_is_ratio : FnOk P w K mg base CX0 2 T.law_is_ratio.f T.law_is_ratio.fd ["_law_thing"] (spIsRt K) := ok_law_is_ratio T
  have Gis_ratio : FnOk P w K mg base CX0 2 T.is_ratio.f T.is_ratio.fd ["thing"] (spIsRt K) := ok_is_ratio T
  have Glaw_signed : FnOk P w K mg base CX0 4 T.law_signed.f T.law_signed.fd ["_law_hand_here"] spSigned := ok_signed T
  have Glaw_big : FnOk P w K mg base CX0 3 T.law_big.f T.law_big.fd ["_law_hand_here"] spBig := ok_big T
  have Glaw_same_ratio : FnOk P w K mg base CX0 3 T.law_same_ratio.f T.law_same_ratio.fd ["_law_told", "_law_due_here"] (spSame K) := ok_law_same T
  have Gmake_ratio : FnOk P w K mg base (L2.CX P w) 3 T.make_ratio.f T.make_ratio.fd ["top", "bottom"] (spMake K T.C) := ok_make T
  have Glaw_ratio : FnOk P w K mg base CX0 2 T.law_ratio.f T.law_ratio.fd ["_law_top", "_law_bottom"] spLRatio := ok_lratio T
  have Glaw_plus : FnOk P w K mg base CX0 3 T.law_plus.f T.law_plus.fd ["_law_one", "_law_other"] (sp2 K (· + ·)) := ok_law_plus T
  have Gratio_text : FnOk P w K mg base CX0 1 T.ratio_text.f T.ratio_text.fd ["one"] (spText K) := ok_text T
  have Glaw_pair_right : FnOk P w K mg base CX0 5 T.law_pair_right.f T.law_pair_right.fd ["_law_one", "_law_other"] (spPair K) := ok_pair T
  have Gsum_of : FnOk P w K mg base CX0 4 T.sum_of.f T.sum_of.fd ["ratios"] (spSum K) := ok_sum T
  have Glaw_things : FnOk P w K mg base CX0 4 T.law_things.f T.law_things.fd ["_law_hand_here"] (spThings K) := ok_things T
  have Glaw_truth : FnOk P w K mg base CX0 1 T.law_truth.f T.law_truth.fd ["_law_told", "_law_due_here"] spTruth := ok_law_truth T
  have Glaw_int : FnOk P w K mg base CX0 1 T.law_int.f T.law_int.fd ["_law_thing"] (spInt K) := ok_law_int T
  have Glaw_whole : FnOk P w K mg base CX0 1 T.law_whole.f T.law_whole.fd ["_law_thing", "_law_low", "_law_high"] (spLWhole K) := ok_law_whole T
  have Gis_whole : FnOk P w K mg base CX0 1 T.is_whole.f T.is_whole.fd ["thing", "low", "high"] (spWhole K) := ok_is_whole T
  obtain ⟨ds0, hv0, hb0⟩ := T.is_whole.b 0 (by decide)
  obtain ⟨ds2, hv2, hb2⟩ := T.is_whole.b 2 (by decide)
  cases hv2
  obtain ⟨dsm, hvm, hbm⟩ := T.make_ratio.b 0 (by decide)
  obtain ⟨itl, kbl⟩ := kw_low T
  obtain ⟨ith, kbh⟩ := kw_high T
  refine F.ok sclaw (fun vs H Q E h => ?_) (fun cdv A outer s H vs Q E hr h => ?_)
  · obtain ⟨_, _, rfl, _⟩ := h
    rfl
  · obtain ⟨a, ns, rfl, hS, hlen, k⟩ := h
    refine ⟨_, (cut (ps_set (i := 1) sclaw.nd rfl (Or.inr rfl) (pe_call Glaw_hand (hr.mono (by decide)) rfl T.law_hand.g T.law_hand.F.kp T.law_hand.b .nil pass0 (pa_cons (pv 0) pa_nil)))
  (cut (ps_for PassesOwn.never rfl (pi_range1 rfl T.range (pa_cons pe_int pa_nil)) (pg_name (i := 2) sclaw.nd rfl (Or.inl rfl))
  (cut (ps_set (i := 3) sclaw.nd rfl (Or.inl rfl) (pe_call Glaw_number_or_odd (hr.mono (by decide)) rfl T.law_number_or_odd.g T.law_number_or_odd.F.kp T.law_number_or_odd.b .nil pass0 (pa_cons (pv 1) pa_nil)))
  (cut (ps_set (i := 4) sclaw.nd rfl (Or.inl rfl) (pe_call Glaw_number_or_odd (hr.mono (by decide)) rfl T.law_number_or_odd.g T.law_number_or_odd.F.kp T.law_number_or_odd.b .nil pass0 (pa_cons (pv 1) pa_nil)))
  (cut (ps_if (pt_cmpR op_eq (pe_call Glaw_take (hr.mono (by decide)) rfl T.law_take.g T.law_take.F.kp T.law_take.b .nil pass0 (pa_cons (pv 1) (pa_cons pe_int pa_nil))) pe_int (nomark _)) (pss_one (ps_set (i := 4) sclaw.nd rfl (Or.inl rfl) pe_int)) pss_nil)
  (cut (ps_set (i := 5) sclaw.nd rfl (Or.inl rfl) (pe_call Glaw_due (hr.mono (by decide)) rfl T.law_due.g T.law_due.F.kp T.law_due.b .nil pass0 (pa_cons (pv 3) (pa_cons (pv 4) pa_nil))))
  (cut (ps_set (i := 6) sclaw.nd rfl (Or.inl rfl) (pe_call Glaw_make (hr.mono (by decide)) rfl T.law_make.g T.law_make.F.kp T.law_make.b .nil pass0 (pa_cons (pv 3) (pa_cons (pv 4) pa_nil))))
  (pss_one (ps_if (PW.pt (pw_or (pt_cmpR (op_neD hr.units) (pv 6) (pv 5) (nomark _)) (pw_or1 (PW.pt (pw_and (pt_val (pe_callB call_isi (by rfl) T.isinstance (by decide +kernel) (pa_cons (pv 5) (pa_cons (pe_bltn (v := .ty "tuple") (by rfl) T.tuple (by decide +kernel) rfl) pa_nil)))) (pw_and1 (pt_not (pt_val (pe_call Glaw_is_ratio (hr.mono (by decide)) rfl T.law_is_ratio.g T.law_is_ratio.F.kp T.law_is_ratio.b .nil pass0 (pa_cons (pv 6) pa_nil)))))))))) (pss_one (ps_ret pe_bl)) pss_nil))))))))
  (cut (ps_set (i := 7) sclaw.nd rfl (Or.inl rfl) (pe_call Glaw_signed (hr.mono (by decide)) rfl T.law_signed.g T.law_signed.F.kp T.law_signed.b .nil pass0 (pa_cons (pv 1) pa_nil)))
  (cut (ps_if (PW.pt (pw_or (pt_not (pt_val (pe_call Glaw_same_ratio (hr.mono (by decide)) rfl T.law_same_ratio.g T.law_same_ratio.F.kp T.law_same_ratio.b .nil pass0 (pa_cons (pe_call Gmake_ratio (hr.mono (by decide)) rfl T.make_ratio.g T.make_ratio.F.kp hbm hvm passL (pa_cons (pv 7) pa_nil)) (pa_cons (pe_tup (pa_cons (pv 7) (pa_cons pe_int pa_nil))) pa_nil))))) (pw_or (pt_not (pt_val (pe_call Glaw_same_ratio (hr.mono (by decide)) rfl T.law_same_ratio.g T.law_same_ratio.F.kp T.law_same_ratio.b .nil pass0 (pa_cons (pe_glob (v := .ref T.zO) rfl T.gZERO rfl) (pa_cons (pe_tup (pa_cons pe_int (pa_cons pe_int pa_nil))) pa_nil))))) (pw_or1 (pt_not (pt_val (pe_call Glaw_same_ratio (hr.mono (by decide)) rfl T.law_same_ratio.g T.law_same_ratio.F.kp T.law_same_ratio.b .nil pass0 (pa_cons (pe_glob (v := .ref T.oO) rfl T.gONE rfl) (pa_cons (pe_tup (pa_cons pe_int (pa_cons pe_int pa_nil))) pa_nil))))))))) (pss_one (ps_ret pe_bl)) pss_nil)
  (cut (ps_setLc (i := 8) (own := [("_law_turn", 2)]) (g := gName 2) (tt := tYes) rfl sclaw.nd rfl rfl (sw_true rfl rfl rfl (by decide +kernel)) (pi_range1 rfl T.range (pa_cons (pe_op op_add pe_int (pe_call Glaw_take (hr.mono (by decide)) rfl T.law_take.g T.law_take.F.kp T.law_take.b .nil pass0 (pa_cons (pv 1) (pa_cons pe_int pa_nil)))) pa_nil)) (blkOk_by (N := ["_law_script", "_law_hand_here", "_law_turn", "_law_top", "_law_bottom", "_law_due_here", "_law_found", "_law_whole_here", "_law_ratios", "_law_total", "_law_one", "_law_other", "_law_least", "_law_most", "_law_thing"]) (sc := defScope slaw) (by decide +kernel)) (fun _ _ _ _ _ => pg_name (i := 2) sclaw.nd rfl (Or.inl rfl)) (fun _ _ _ _ _ => pts_nil) (fun _ _ _ _ _ => (pe_call Glaw_ratio (hr.mono (by decide)) rfl T.law_ratio.g T.law_ratio.F.kp T.law_ratio.b .nil pass0 (pa_cons (pe_call Glaw_signed (hr.mono (by decide)) rfl T.law_signed.g T.law_signed.F.kp T.law_signed.b .nil pass0 (pa_cons (pv 1) pa_nil)) (pa_cons (pe_op op_add pe_int (pe_call Glaw_big (hr.mono (by decide)) rfl T.law_big.g T.law_big.F.kp T.law_big.b .nil pass0 (pa_cons (pv 1) pa_nil))) pa_nil)))))
  (cut (ps_expr (pe_bm PySem.F.plainAttrs_list PySem.F.slot_list_append PySem.F.type_list_append mt_append (pv 8) (pa_cons (pe_ix ix_list (pv 8) (pe_call Glaw_take (hr.mono (by decide)) rfl T.law_take.g T.law_take.F.kp T.law_take.b .nil pass0 (pa_cons (pv 1) (pa_cons (pe_callB call_len_seq (by rfl) T.len PySem.boot_len (pa_cons (pv 8) pa_nil)) pa_nil))) (fun _ _ => rfl)) pa_nil)))
  (cut (ps_expr (pe_bm PySem.F.plainAttrs_list PySem.F.slot_list_append PySem.F.type_list_append mt_append (pv 8) (pa_cons (pe_tup (pa_cons pe_int (pa_cons pe_int pa_nil))) pa_nil)))
  (cut (ps_set (i := 9) sclaw.nd rfl (Or.inl rfl) (pe_tup (pa_cons pe_int (pa_cons pe_int pa_nil))))
  (cut (ps_for PassesOwn.never rfl (pi_list (pv 8)) (pg_name (i := 10) sclaw.nd rfl (Or.inl rfl))
  (cut (ps_set (i := 9) sclaw.nd rfl (Or.inl rfl) (pe_call Glaw_plus (hr.mono (by decide)) rfl T.law_plus.g T.law_plus.F.kp T.law_plus.b .nil pass0 (pa_cons (pv 9) (pa_cons (pv 10) pa_nil))))
  (cut (ps_if (PW.pt (pw_or (pt_cmpR op_ne (pe_call Gratio_text (hr.mono (by decide)) rfl T.ratio_text.g T.ratio_text.F.kp T.ratio_text.b .nil pass0 (pa_cons (pv 10) pa_nil)) (pe_ifExp (pt_cmpR op_eq (pe_ix ix_tup (pv 10) pe_int (fun _ _ => rfl)) pe_int (nomark _)) (pe_callTy call_str_int (by rfl) T.str (by decide +kernel) (pa_cons (pe_ix ix_tup (pv 10) pe_int (fun _ _ => rfl)) pa_nil)) (pe_op op_add_str (pe_op op_add_str (pe_callTy call_str_int (by rfl) T.str (by decide +kernel) (pa_cons (pe_ix ix_tup (pv 10) pe_int (fun _ _ => rfl)) pa_nil)) pe_str) (pe_callTy call_str_int (by rfl) T.str (by decide +kernel) (pa_cons (pe_ix ix_tup (pv 10) pe_int (fun _ _ => rfl)) pa_nil)))) (nomark _)) (pw_or1 (pt_cmpR op_notBl (pe_call Gis_ratio (hr.mono (by decide)) rfl T.is_ratio.g T.is_ratio.F.kp T.is_ratio.b .nil pass0 (pa_cons (pv 10) pa_nil)) pe_bl (nomark _))))) (pss_one (ps_ret pe_bl)) pss_nil)
  (pss_one (ps_for PassesOwn.never rfl (pi_list (pv 8)) (pg_name (i := 11) sclaw.nd rfl (Or.inl rfl))
  (pss_one (ps_if (pt_not (pt_val (pe_call Glaw_pair_right (hr.mono (by decide)) rfl T.law_pair_right.g T.law_pair_right.F.kp T.law_pair_right.b .nil pass0 (pa_cons (pv 10) (pa_cons (pv 11) pa_nil))))) (pss_one (ps_ret pe_bl)) pss_nil)))))))
  (cut (ps_if (PW.pt (pw_or (pt_not (pt_val (pe_call Glaw_same_ratio (hr.mono (by decide)) rfl T.law_same_ratio.g T.law_same_ratio.F.kp T.law_same_ratio.b .nil pass0 (pa_cons (pe_call Gsum_of (hr.mono (by decide)) rfl T.sum_of.g T.sum_of.F.kp T.sum_of.b .nil pass0 (pa_cons (pv 8) pa_nil)) (pa_cons (pv 9) pa_nil))))) (pw_or (pt_not (pt_val (pe_call Glaw_same_ratio (hr.mono (by decide)) rfl T.law_same_ratio.g T.law_same_ratio.F.kp T.law_same_ratio.b .nil pass0 (pa_cons (pe_call Gsum_of (hr.mono (by decide)) rfl T.sum_of.g T.sum_of.F.kp T.sum_of.b .nil pass0 (pa_cons (pe_callTy call_tuple_of (by rfl) T.tuple (by decide +kernel) (pa_cons (pv 8) pa_nil)) pa_nil)) (pa_cons (pv 9) pa_nil))))) (pw_or1 (pt_cmpR (op_neD hr.units) (pe_call Gsum_of (hr.mono (by decide)) rfl T.sum_of.g T.sum_of.F.kp T.sum_of.b .nil pass0 (pa_cons (pe_lst pa_nil) pa_nil)) (pe_tup (pa_cons pe_int (pa_cons pe_int pa_nil))) (nomark _)))))) (pss_one (ps_ret pe_bl)) pss_nil)
  (cut (ps_set (i := 12) sclaw.nd rfl (Or.inl rfl) (pe_call Glaw_signed (hr.mono (by decide)) rfl T.law_signed.g T.law_signed.F.kp T.law_signed.b .nil pass0 (pa_cons (pv 1) pa_nil)))
  (cut (ps_set (i := 13) sclaw.nd rfl (Or.inl rfl) (pe_op op_add (pv 12) (pe_call Glaw_take (hr.mono (by decide)) rfl T.law_take.g T.law_take.F.kp T.law_take.b .nil pass0 (pa_cons (pv 1) (pa_cons pe_int pa_nil)))))
  (cut (ps_for PassesOwn.never rfl (pi_list (pe_call Glaw_things (hr.mono (by decide)) rfl T.law_things.g T.law_things.F.kp T.law_things.b .nil pass0 (pa_cons (pv 1) pa_nil))) (pg_name (i := 14) sclaw.nd rfl (Or.inl rfl))
  (pss_one (ps_if (PW.pt (pw_or (pt_not (pt_val (pe_call Glaw_truth (hr.mono (by decide)) rfl T.law_truth.g T.law_truth.F.kp T.law_truth.b .nil pass0 (pa_cons (pe_call Gis_ratio (hr.mono (by decide)) rfl T.is_ratio.g T.is_ratio.F.kp T.is_ratio.b .nil pass0 (pa_cons (pv 14) pa_nil)) (pa_cons (pe_call Glaw_is_ratio (hr.mono (by decide)) rfl T.law_is_ratio.g T.law_is_ratio.F.kp T.law_is_ratio.b .nil pass0 (pa_cons (pv 14) pa_nil)) pa_nil))))) (pw_or1 (pt_not (pt_val (pe_call Glaw_truth (hr.mono (by decide)) rfl T.law_truth.g T.law_truth.F.kp T.law_truth.b .nil pass0 (pa_cons (pe_call Gis_whole (hr.mono (by decide)) rfl T.is_whole.g T.is_whole.F.kp hb0 hv0 pass0 (pa_cons (pv 14) pa_nil)) (pa_cons (pe_call Glaw_int (hr.mono (by decide)) rfl T.law_int.g T.law_int.F.kp T.law_int.b .nil pass0 (pa_cons (pv 14) pa_nil)) pa_nil)))))))) (pss_one (ps_ret pe_bl)) pss_nil)))
  (cut (ps_for PassesOwn.never rfl (pi_list (pe_lst (pa_cons (pe_op op_sub (pv 12) pe_int) (pa_cons (pv 12) (pa_cons (pv 13) (pa_cons (pe_op op_add (pv 13) pe_int) (pa_cons pe_bl (pa_cons pe_non (pa_cons pe_str (pa_cons (pe_tup (pa_cons (pv 12) pa_nil)) pa_nil)))))))))) (pg_name (i := 14) sclaw.nd rfl (Or.inl rfl))
  (cut (ps_if (pt_not (pt_val (pe_call Glaw_truth (hr.mono (by decide)) rfl T.law_truth.g T.law_truth.F.kp T.law_truth.b .nil pass0 (pa_cons (pe_call Gis_whole (hr.mono (by decide)) rfl T.is_whole.g T.is_whole.F.kp hb2 .nil pass0 (pa_cons (pv 14) (pa_cons (pv 12) (pa_cons (pv 13) pa_nil)))) (pa_cons (pe_call Glaw_whole (hr.mono (by decide)) rfl T.law_whole.g T.law_whole.F.kp T.law_whole.b .nil pass0 (pa_cons (pv 14) (pa_cons (pv 12) (pa_cons (pv 13) pa_nil)))) pa_nil))))) (pss_one (ps_ret pe_bl)) pss_nil)
  (cut (ps_if (pt_not (pt_val (pe_call Glaw_truth (hr.mono (by decide)) rfl T.law_truth.g T.law_truth.F.kp T.law_truth.b .nil pass0 (pa_cons (pe_callN Gis_whole (hr.mono (by decide)) rfl T.is_whole.g T.is_whole.F.kp kbl pass0 (pa_cons (pv 14) pa_nil) (pk_cons (pv 12) pk_nil)) (pa_cons (pe_and (pe_call Glaw_int (hr.mono (by decide)) rfl T.law_int.g T.law_int.F.kp T.law_int.b .nil pass0 (pa_cons (pv 14) pa_nil)) (pe_one (pe_cmpR op_le (pv 12) (pv 14) (nomark _)))) pa_nil))))) (pss_one (ps_ret pe_bl)) pss_nil)
  (pss_one (ps_if (pt_not (pt_val (pe_call Glaw_truth (hr.mono (by decide)) rfl T.law_truth.g T.law_truth.F.kp T.law_truth.b .nil pass0 (pa_cons (pe_callN Gis_whole (hr.mono (by decide)) rfl T.is_whole.g T.is_whole.F.kp kbh pass0 (pa_cons (pv 14) pa_nil) (pk_cons (pv 13) pk_nil)) (pa_cons (pe_and (pe_call Glaw_int (hr.mono (by decide)) rfl T.law_int.g T.law_int.F.kp T.law_int.b .nil pass0 (pa_cons (pv 14) pa_nil)) (pe_one (pe_cmpR op_le (pv 14) (pv 13) (nomark _)))) pa_nil))))) (pss_one (ps_ret pe_bl)) pss_nil)))))
  (pss_one (ps_ret pe_bl)))))))))))))))), ?_⟩
    -- hand
    refine ⟨fun σ' H' => ∃ h c, σ' = S15 a h none none none none none none none none none none none none none ∧ Hand H' h c, ?_, ?_⟩
    · exact ⟨_, rfl, a, ns, rfl, hS, hlen, fun h c H' hn s1 hh => ⟨h, c, rfl, hh⟩⟩
    rintro σ' H1 ⟨h, c, rfl, hh1⟩
    -- four turns
    refine ⟨fun σ' H' => ∃ v2 v3 v4 v5 v6, σ' = S15 a h v2 v3 v4 v5 v6 none none none none none none none none ∧ Hand H' h c, ?_, ?_⟩
    · refine ⟨4, rfl, by decide, by decide, for_range (n := 4) (fun i σ' H' => ∃ v2 v3 v4 v5 v6, σ' = S15 a h v2 v3 v4 v5 v6 none none none none none none none none ∧ Hand H' h c) ⟨_, _, _, _, _, rfl, hh1⟩ ?_ (fun σ H' p => p)⟩
      rintro i σ H2 hi ⟨v2, v3, v4, v5, v6, rfl, hh2⟩
      refine ⟨fun σ' H' => ∃ v d, σ' = S15 a h (some (.int (0 + i))) (some v) v4 v5 v6 none none none none none none none none ∧ Hand H' h c ∧ Odd K H' h v d, ?_, ?_⟩
      · exact ⟨_, rfl, h, c, rfl, hh2, fun v d H' p1 p2 p3 p4 p5 => ⟨v, d, rfl, p4, p1, p2, p5⟩⟩
      rintro σ' H3 ⟨v, d, rfl, hh3, o1⟩
      refine ⟨fun σ' H' => ∃ v' d', σ' = S15 a h (some (.int (0 + i))) (some v) (some v') v5 v6 none none none none none none none none ∧ Hand H' h c ∧ Odd K H' h v d ∧ Odd K H' h v' d', ?_, ?_⟩
      · exact ⟨_, rfl, h, c, rfl, hh3, fun v' d' H' p1 p2 p3 p4 p5 => ⟨v', d', rfl, p4, o1.kept p3, p1, p2, p5⟩⟩
      rintro σ' H4 ⟨v', d', rfl, hh4, o1, o2⟩
      refine ⟨fun σ' H' => ∃ v' d', σ' = S15 a h (some (.int (0 + i))) (some v) (some v') v5 v6 none none none none none none none none ∧ Hand H' h c ∧ Odd K H' h v d ∧ Odd K H' h v' d', ?_, ?_⟩
      · refine ⟨_, rfl, h, c, 6, rfl, by decide, by decide, hh4, fun r H5 r0 r1 kp hh5 => ⟨rfl, _, rfl, ?_⟩⟩
        refine ite2 (fun e => ?_) (fun e => ?_)
        · exact ⟨_, .int 0, rfl, hh5, o1.kept kp, .int 0, (fun b z => by cases z; decide), (fun p z => by cases z)⟩
        · exact ⟨_, _, rfl, hh5, o1.kept kp, o2.kept kp⟩
      rintro σ' H5 ⟨v', d', rfl, hh5, o1, o2⟩
      refine ⟨fun σ' H' => ∃ x, σ' = S15 a h (some (.int (0 + i))) (some v) (some v') (some x) v6 none none none none none none none none ∧ Same H5 H' ∧ Dp K H' x (dueD d d'), ?_, ?_⟩
      · exact ⟨_, rfl, _, rfl, v, v', d, d', rfl, o1.1, o2.1, smB_of o2.2.1, fun x H' s p => ⟨x, rfl, s, p⟩⟩
      rintro σ' H6 ⟨x, rfl, s6, px⟩
      refine ⟨fun σ' H' => ∃ y, σ' = S15 a h (some (.int (0 + i))) (some v) (some v') (some x) (some y) none none none none none none none none ∧ Same H5 H' ∧ Dp K H' x (dueD d d') ∧ Dp K H' y (dueD d d'), ?_, ?_⟩
      · exact ⟨_, rfl, _, rfl, v, v', d, d', rfl, Dp.same s6 o1.1, Dp.same s6 o2.1, smB_of o2.2.1, fun y H' s p => ⟨y, rfl, s6.trans s, Dp.same s px, p⟩⟩
      rintro σ' H7 ⟨y, rfl, s7, px, py⟩
      refine ⟨_, rfl, _, rfl, _, _, py, px, sh_due d d', sh_due d d', _, rfl, ?_⟩
      rw [ev_due]
      refine iteF ?_
      obtain ⟨t, ty, _, _, k3⟩ := ty_of px
      refine ⟨_, rfl, _, _, _, _, _, rfl, .ty _, ty, kit_ty k3, _, rfl, ?_⟩
      have fin : (∃ v2 v3 v4 v5 v6, S15 a h (some (.int (0 + i))) (some v) (some v') (some x) (some y) none none none none none none none none = S15 a h v2 v3 v4 v5 v6 none none none none none none none none ∧ Hand H7 h c) := ⟨_, _, _, _, _, rfl, hh5.same s7⟩
      cases e1 : isT (dueD d d') with
      | false => exact iteF (iteF fin)
      | true =>
        rcases due_cases d d' with e | e | ⟨t', b, b0, e2, e⟩
        · rw [e] at e1; cases e1
        · rw [e] at e1; cases e1
        · refine iteT ⟨_, rfl, y, _, rfl, py, ?_, _, rfl, ?_⟩
          · rw [e]
            subst e2
            exact Nat.lt_of_le_of_lt (den_div t' b b0) (bd_of (b60 (o2.2.1 b rfl)) (by decide))
          · rw [e, isRt_rat]
            exact iteF fin
    rintro σ' H2 ⟨v2, v3, v4, v5, v6, rfl, hh2⟩
    -- whole
    refine ⟨fun σ' H' => ∃ z : Int, σ' = S15 a h v2 v3 v4 v5 v6 (some (.int z)) none none none none none none none ∧ Hand H' h c ∧ z.natAbs < 1000000000000000000, ?_, ?_⟩
    · exact ⟨_, rfl, h, c, rfl, hh2, fun z H' z1 kp hh' => ⟨z, rfl, hh', z1⟩⟩
    rintro σ' H3 ⟨z, rfl, hh3, zb⟩
    refine ⟨fun σ' H' => σ' = S15 a h v2 v3 v4 v5 v6 (some (.int z)) none none none none none none none ∧ Hand H' h c, ?_, ?_⟩
    · obtain ⟨q1, q2⟩ := divInt_one z
      have one2 : (1 : Nat) < 2 ^ 1990 := bd_of (m := 3) (by decide) (by decide)
      have z2 : (2 : Nat) ≤ sizeLine := by decide
      refine ⟨_, rfl, _, _, .int z, .int 1, rfl, .int z, .int 1, (fun e => by cases e), (fun _ e => by cases e), fun t b e1 e2 b0 => ?_⟩
      cases e1
      cases e2
      refine ⟨one2, fun p1 H4 s4 n4 e4 => ⟨_, rfl, z2, fun p2 n5 => ?_⟩⟩
      refine ⟨_, _, Rat.divInt z 1, rfl, ⟨p1, rfl, SqT.of ((same_new n5) _ _ e4)⟩, ⟨p2, rfl, ?_⟩, by rw [q2]; exact one2, _, rfl, iteF ?_⟩
      · rw [q1, q2]; exact SqT.of upd_same
      refine ⟨z2, fun p3 n6 => ⟨_, _, (0 : Rat), rfl, ⟨_, rfl, seqT_written T.vZERO⟩, ⟨p3, rfl, SqT.of upd_same⟩, one2, _, rfl, iteF ?_⟩⟩
      refine ⟨z2, fun p4 n7 => ⟨_, _, (1 : Rat), rfl, ⟨_, rfl, seqT_written T.vONE⟩, ⟨p4, rfl, SqT.of upd_same⟩, one2, _, rfl, iteF ⟨rfl, ?_⟩⟩⟩
      exact (((hh3.same s4).same (same_new n5)).same (same_new n6)).same (same_new n7)
    rintro σ' H4 ⟨rfl, hh4⟩
    -- ratios
    refine ⟨fun σ' H' => ∃ D qs, σ' = S15 a h v2 v3 v4 v5 v6 (some (.int z)) (some (.ref D)) none none none none none none ∧ Hand H' h c ∧ RtList H' D qs ∧ D ≠ h ∧ D ≠ c ∧ 0 < qs.length ∧ qs.length ≤ 6 ∧ ∀ q ∈ qs, Sz 100 q, ?_, ?_⟩
    · refine ⟨_, rfl, h, c, 5, rfl, by decide, by decide, hh4, fun r H5 r0 r1 kp5 hh5 => ⟨_, _, rfl, rfl, 2 + r, rfl, by omega, by omega, fun D nD => ?_⟩⟩
      obtain ⟨nh, nc⟩ := hh5.new nD
      have base0 : RtList (upd H5 D (.lst [])) D [] := ⟨⟨[], upd_same, rfl, fun i x q e => by simp at e⟩⟩
      refine lc_range (lo := 0) (n := (2 + r).toNat) (fun i H' => ∃ qs, Hand H' h c ∧ RtList H' D qs ∧ qs.length = i ∧ ∀ q ∈ qs, Sz 100 q) ⟨[], hand_put hh5 nh nc, base0, rfl, by simp⟩ ?_ ?_
      · rintro i H6 hi ⟨qs, hh6, L6, l6, z6⟩
        refine ⟨rfl, ?_⟩
        refine ⟨_, rfl, h, c, rfl, hh6, fun t H7 t0 kp7 hh7 => ⟨_, rfl, h, c, rfl, hh7, fun b H8 b0 b1 kp8 hh8 => ⟨_, _, rfl, rfl, t, 1 + b, rfl, by omega, ?_, fun p H9 s9 n9 e9 => ?_⟩⟩⟩
        · exact bd_of (b61 (z := 1 + b) (by omega)) (by decide)
        · have L8 := (L6.kept hh6 nh kp7).kept hh7 nh kp8
          have L9 := L8.same s9
          obtain ⟨xs, x1, x2, x3⟩ := L9.ex
          refine ⟨xs, x1, small64 (by omega), qs ++ [Rat.divInt t (1 + b)], hand_put (hh8.same s9) nh nc, L9.put x1 ⟨p, rfl, e9⟩, by simp [l6], fun q hq => ?_⟩
          rcases List.mem_append.mp hq with hq | hq
          · exact z6 q hq
          · rw [List.mem_singleton.mp hq]
            exact ⟨Nat.lt_of_le_of_lt (num_div t (1 + b) (by omega)) (b60 t0), Nat.lt_of_le_of_lt (den_div t (1 + b) (by omega)) (b61 (by omega))⟩
      · rintro H6 ⟨qs, hh6, L6, l6, z6⟩
        exact ⟨D, qs, rfl, hh6, L6, nh, nc, by omega, by omega, z6⟩
    rintro σ' H5 ⟨D, qs0, rfl, hh5, L5, nh, nc, g0, g6, z5⟩
    -- one of them again
    refine ⟨fun σ' H' => ∃ qs, σ' = S15 a h v2 v3 v4 v5 v6 (some (.int z)) (some (.ref D)) none none none none none none ∧ Hand H' h c ∧ RtList H' D qs ∧ qs.length ≤ 7 ∧ ∀ q ∈ qs, Sz 100 q, ?_, ?_⟩
    · obtain ⟨xs, x1, x2, x3⟩ := L5.ex
      have tk : (_ : Hp) D = some (.lst xs) := x1
      refine ⟨_, rfl, .inl ⟨rfl, _, SqL.of x1⟩, _, rfl, _, rfl, _, rfl, D, xs, rfl, .inl (SqL.of x1), h, c, _, rfl, by omega, ?_, hh5, fun r H6 r0 r1 kp6 hh6 => ?_⟩
      · have : ((xs.length : Int)).natAbs < 2 ^ 60 := by
          have e : (2 : Nat) ^ 60 = 1152921504606846976 := by decide
          rw [e]; omega
        exact bd_of this (by decide)
      · have il : r.toNat < xs.length := by omega
        have L6 := L5.kept hh5 nh kp6
        have t1 : H6 D = some (.lst xs) := kp6 _ _ nh x1
        obtain ⟨ys, y1, y2, y3⟩ := L6.ex
        rw [t1] at y1
        cases y1
        have hx : xs[r.toNat]? = some xs[r.toNat] := List.getElem?_eq_getElem _
        have hq : qs0[r.toNat]? = some (qs0[r.toNat]'(by omega)) := List.getElem?_eq_getElem _
        refine ⟨D, xs, r, xs[r.toNat], rfl, rfl, SqL.of t1, at_of (j := r.toNat) (by omega) hx, D, xs, _, rfl, rfl, t1, small64 (by omega), ?_⟩
        exact ⟨_, rfl, hand_put hh6 nh nc, L6.put t1 (y3 _ _ _ hx hq), by simp; omega, fun q hq' => by
          rcases List.mem_append.mp hq' with hq' | hq'
          · exact z5 q hq'
          · rw [List.mem_singleton.mp hq']; exact z5 _ (List.mem_of_getElem? hq)⟩
    rintro σ' H6 ⟨qs1, rfl, hh6, L6, g7, z6⟩
    -- and nought
    refine ⟨fun σ' H' => ∃ qs, σ' = S15 a h v2 v3 v4 v5 v6 (some (.int z)) (some (.ref D)) none none none none none none ∧ Hand H' h c ∧ RtList H' D qs ∧ qs.length ≤ 8 ∧ ∀ q ∈ qs, Sz 100 q, ?_, ?_⟩
    · obtain ⟨xs, x1, x2, x3⟩ := L6.ex
      refine ⟨_, rfl, .inl ⟨rfl, _, SqL.of x1⟩, (by show 2 ≤ sizeLine; decide), fun p n7 => ?_⟩
      have s7 := same_new (o := .tup [.int 0, .int 1]) n7
      refine ⟨D, xs, _, rfl, rfl, s7 _ _ x1, small64 (by omega), ?_⟩
      exact ⟨qs1 ++ [(0 : Rat)], rfl, hand_put (hh6.same s7) nh nc, (L6.same s7).put (s7 _ _ x1) ⟨p, rfl, upd_same⟩, by simp; omega, fun q hq' => by
          rcases List.mem_append.mp hq' with hq' | hq'
          · exact z6 q hq'
          · rw [List.mem_singleton.mp hq']; exact ⟨by decide, by decide⟩⟩
    rintro σ' H7 ⟨qs, rfl, hh7, L7, g8, z7⟩
    refine ⟨fun σ' H' => ∃ t, σ' = S15 a h v2 v3 v4 v5 v6 (some (.int z)) (some (.ref D)) (some t) none none none none none ∧ Hand H' h c ∧ RtList H' D qs ∧ RtT H' t 0, ?_, ?_⟩
    · exact ⟨(by show 2 ≤ sizeLine; decide), fun p n8 => ⟨_, rfl, hh7.same (same_new n8), L7.same (same_new n8), p, rfl, upd_same⟩⟩
    rintro σ' H8 ⟨t0, rfl, hh8, L8, rt0⟩
    obtain ⟨xs, x1, x2, x3⟩ := L8.ex
    have sumsz : ∀ i, i ≤ qs.length → Sz 900 (sumQ (qs.take i)) := fun i hi => (sz_sum qs z7 i hi).mono (by omega)
    have item : ∀ (i : Nat) (x : V), xs[i]? = some x → ∃ q, qs[i]? = some q ∧ RtT H8 x q ∧ Sz 100 q ∧ i < qs.length := by
      intro i x hi
      have il : i < xs.length := (List.getElem?_eq_some_iff.mp hi).1
      have hq : qs[i]? = some (qs[i]'(by omega)) := List.getElem?_eq_getElem _
      exact ⟨_, hq, x3 i x _ hi hq, z7 _ (List.mem_of_getElem? hq), by omega⟩
    -- all of them
    refine ⟨fun σ' H' => ∃ t w10 w11, σ' = S15 a h v2 v3 v4 v5 v6 (some (.int z)) (some (.ref D)) (some t) w10 w11 none none none ∧ Same H8 H' ∧ RtT H' t (sumQ qs), ?_, ?_⟩
    · refine ⟨_, rfl, D, rfl, ⟨_, SqL.of x1⟩, for_list (K := K) (a := D) (xs := xs) (fun i σ' H' => ∃ t w10 w11, σ' = S15 a h v2 v3 v4 v5 v6 (some (.int z)) (some (.ref D)) (some t) w10 w11 none none none ∧ Same H8 H' ∧ RtT H' t (sumQ (qs.take i)))
        ⟨t0, none, none, rfl, Same.refl _, rt0⟩ (fun i σ H' _ ⟨_, _, _, _, s, _⟩ => SqL.of (s _ _ x1)) ?_ ?_⟩
      · rintro i x σ H9 hi ⟨t, w10, w11, rfl, s9, rt⟩
        obtain ⟨q, hq, rx, zq, il⟩ := item i x hi
        refine ⟨fun σ' H' => ∃ t, σ' = S15 a h v2 v3 v4 v5 v6 (some (.int z)) (some (.ref D)) (some t) (some x) w11 none none none ∧ Same H8 H' ∧ RtT H' t (sumQ (qs.take (i + 1))), ?_, ?_⟩
        · refine ⟨_, rfl, _, rfl, _, _, _, q, rfl, rt.rtv, (rx.same s9).rtv, sumsz i (by omega), zq.mono (by decide), fun p H' s' n' e' => ⟨_, rfl, s9.trans s', p, rfl, ?_⟩⟩
          rw [sum_more hq]
          exact e'
        rintro σ' Ha ⟨t, rfl, sa, rt⟩
        have rxa : RtT Ha x q := rx.same sa
        obtain ⟨px, rfl, ex⟩ := id rxa
        have Sx : SqT K Ha px [.int q.num, .int (q.den : Int)] := SqT.of ex
        have b2 : ((q.den : Int)).natAbs < 2 ^ 100 := zq.2
        refine ⟨fun σ' H' => σ' = S15 a h v2 v3 v4 v5 v6 (some (.int z)) (some (.ref D)) (some t) (some (.ref px)) w11 none none none ∧ H' = Ha, ?_, ?_⟩
        · refine ⟨_, rfl, _, q, rfl, rxa.rtv, zq, ?_⟩
          refine ⟨_, rfl, px, _, 1, _, rfl, rfl, Sx, atI_nat rfl, rfl, _, rfl, ?_⟩
          refine ite2 (fun e => ?_) (fun e => ?_)
          · have e' : (q.den : Int) = 1 := by have := of_decide_eq_true e; injection this
            refine ⟨_, rfl, px, _, 0, _, rfl, rfl, Sx, atI_nat rfl, _, rfl, log_small zq.1, rfl, _, rfl, ?_⟩
            have et : txt q = Str.ofString (toString q.num) := by unfold txt; rw [if_pos e']
            rw [et, decide_eq_true rfl]
            refine iteF ⟨_, rfl, _, ratD q, rfl, rxa.rtv.dp, bd_of zq.2 (by decide), _, _, rfl, rfl, _, rfl, ?_⟩
            rw [isRt_rat, decide_eq_true rfl]
            exact iteF ⟨rfl, rfl⟩
          · have e' : ¬ (q.den : Int) = 1 := fun f => e (by rw [f]; exact decide_eq_true rfl)
            have l1 := txt_len zq.1
            have l2 := txt_len b2
            have big : sizeLine = 16777216 := sizeLine_eq
            have ls : (Str.ofString "/").length = 1 := by decide
            refine ⟨_, rfl, px, _, 0, _, rfl, rfl, Sx, atI_nat rfl, _, rfl, log_small zq.1, _, _, rfl, rfl, (by rw [big]; omega), _, rfl, px, _, 1, _, rfl, rfl, Sx, atI_nat rfl, _, rfl, log_small b2, _, _, rfl, rfl, (by rw [Str.length_append, big]; omega), rfl, _, rfl, ?_⟩
            have et : txt q = (Str.ofString (toString q.num) ++ "/") ++ Str.ofString (toString (q.den : Int)) := by unfold txt; rw [if_neg e']
            rw [et, decide_eq_true rfl]
            refine iteF ⟨_, rfl, _, ratD q, rfl, rxa.rtv.dp, bd_of zq.2 (by decide), _, _, rfl, rfl, _, rfl, ?_⟩
            rw [isRt_rat, decide_eq_true rfl]
            exact iteF ⟨rfl, rfl⟩
        rintro σ' Hb ⟨rfl, rfl⟩
        -- with each other one
        refine ⟨_, rfl, D, rfl, ⟨_, SqL.of (sa _ _ x1)⟩, for_list (K := K) (a := D) (xs := xs) (fun j σ' H' => ∃ w11, σ' = S15 a h v2 v3 v4 v5 v6 (some (.int z)) (some (.ref D)) (some t) (some (.ref px)) w11 none none none ∧ Same Hb H')
          ⟨_, rfl, Same.refl _⟩ (fun j σ H' _ ⟨_, _, s⟩ => SqL.of ((sa.trans s) _ _ x1)) ?_ ?_⟩
        · rintro j y σ Hc hj ⟨w11', rfl, sc⟩
          obtain ⟨q', hq', ry, zq', jl⟩ := item j y hj
          exact ⟨_, rfl, _, rfl, _, _, q, q', rfl, (rxa.same sc).rtv, (ry.same (sa.trans sc)).rtv, zq, zq', fun Hd sd => ⟨_, rfl, iteF ⟨_, rfl, sc.trans sd⟩⟩⟩
        · rintro σ Hc ⟨w11', rfl, sc⟩
          exact ⟨_, _, _, rfl, sa.trans sc, rt.same sc⟩
      · rintro σ H9 ⟨t, w10, w11, rfl, s9, rt⟩
        rw [x2, List.take_length] at rt
        exact ⟨_, _, _, rfl, s9, rt⟩
    rintro σ' H9 ⟨t9, w10, w11, rfl, s9, rt9⟩
    have dsum : (sumQ qs).den < 2 ^ 1990 := by
      have := (sumsz qs.length (Nat.le_refl _)).2
      rw [List.take_length] at this
      exact bd_of this (by decide)
    -- the sums
    refine ⟨fun σ' H' => σ' = S15 a h v2 v3 v4 v5 v6 (some (.int z)) (some (.ref D)) (some t9) w10 w11 none none none ∧ Hand H' h c, ?_, ?_⟩
    · have seq : ∀ {H' : Hp} {p : Addr}, Same H8 H' → (SqL K H' p xs ∨ SqT K H' p xs) → RtSeq K H' (.ref p) qs := fun s e => ⟨_, xs, rfl, e, x2, fun i x q h1 h2 => ((x3 i x q h1 h2).same s).rtv⟩
      refine ⟨_, rfl, _, qs, rfl, seq s9 (.inl (SqL.of (s9 _ _ x1))), g8, z7, fun p1 Ha sa na ea => ⟨_, rfl, _, _, sumQ qs, rfl, ⟨p1, rfl, SqT.of ea⟩, (rt9.same sa).rtv, dsum, _, rfl, iteF ?_⟩⟩
      have s10 := s9.trans sa
      refine ⟨_, rfl, D, xs, rfl, .inl ⟨SqL.of (s10 _ _ x1), fun l nl => ?_⟩⟩
      have s11 := s10.trans (same_new (o := .tup xs) nl)
      refine ⟨_, qs, rfl, seq s11 (.inr (SqT.of upd_same)), g8, z7, fun p2 Hb sb nb eb => ⟨_, rfl, _, _, sumQ qs, rfl, ⟨p2, rfl, SqT.of eb⟩, (((rt9.same sa).same (same_new nl)).same sb).rtv, dsum, _, rfl, iteF ?_⟩⟩
      have s12 := s11.trans sb
      refine ⟨(by show 0 ≤ sizeLine; decide), fun l2 nl2 => ⟨_, [], rfl, ⟨l2, [], rfl, .inl (SqL.of upd_same), rfl, fun i x q e => by simp at e⟩, by decide, by simp, fun p3 Hc sc nc' ec => ⟨(by show 2 ≤ sizeLine; decide), fun p4 np4 => ?_⟩⟩⟩
      have s13 := ((s12.trans (same_new nl2)).trans sc).trans (same_new (o := .tup [.int 0, .int 1]) np4)
      refine ⟨ratD 0, ratD 0, RtV.dp ⟨p3, rfl, SqT.of (same_new np4 _ _ ec)⟩, RtV.dp ⟨p4, rfl, SqT.of upd_same⟩, sh_rat 0, sh_rat 0, _, rfl, ?_⟩
      rw [ev_rat]
      exact iteF ⟨rfl, hh8.same s13⟩
    rintro σ' H10 ⟨rfl, hh10⟩
    refine ⟨fun σ' H' => ∃ l : Int, σ' = S15 a h v2 v3 v4 v5 v6 (some (.int z)) (some (.ref D)) (some t9) w10 w11 (some (.int l)) none none ∧ Hand H' h c, ?_, ?_⟩
    · exact ⟨_, rfl, h, c, rfl, hh10, fun l H' z1 kp hh' => ⟨l, rfl, hh'⟩⟩
    rintro σ' H11 ⟨l, rfl, hh11⟩
    refine ⟨fun σ' H' => ∃ m : Int, σ' = S15 a h v2 v3 v4 v5 v6 (some (.int z)) (some (.ref D)) (some t9) w10 w11 (some (.int l)) (some (.int m)) none ∧ Hand H' h c, ?_, ?_⟩
    · exact ⟨_, rfl, _, rfl, h, c, 3, rfl, by decide, by decide, hh11, fun r H' r0 r1 kp hh' => ⟨_, _, rfl, rfl, _, rfl, hh'⟩⟩
    rintro σ' H12 ⟨m, rfl, hh12⟩
    have truth : ∀ (b : Bool) (H' : Hp) (Q' : VK), Q' (.bl true) H' → spTruth [.bl b, .bl b] H' Q' E0 := fun b H' Q' q => ⟨b, rfl, q⟩
    -- things of many kinds
    refine ⟨fun σ' H' => ∃ v14, σ' = S15 a h v2 v3 v4 v5 v6 (some (.int z)) (some (.ref D)) (some t9) w10 w11 (some (.int l)) (some (.int m)) v14, ?_, ?_⟩
    · refine ⟨_, rfl, h, c, rfl, hh12, fun L ys ds H' kp hh' eL dp sm => ⟨L, rfl, ⟨_, SqL.of eL⟩, for_list (K := K) (a := L) (xs := ys) (fun i σ' H2 => H2 = H' ∧ ∃ v14, σ' = S15 a h v2 v3 v4 v5 v6 (some (.int z)) (some (.ref D)) (some t9) w10 w11 (some (.int l)) (some (.int m)) v14)
        ⟨rfl, _, rfl⟩ (fun i σ H2 _ ⟨e, _⟩ => by rw [e]; exact SqL.of eL) ?_ ?_⟩⟩
      · rintro i x σ H2 hi ⟨rfl, v14, rfl⟩
        have get : ∀ {xs : List V} {ds : List PyData} {i : Nat} {x : V}, DpAll K H2 xs ds → xs[i]? = some x → ∃ d, d ∈ ds ∧ Dp K H2 x d := by
          intro xs
          induction xs with
          | nil => intro ds i x _ e; simp at e
          | cons y r ih =>
            intro ds i x hd e
            cases hd with
            | cons h1 h2 =>
              cases i with
              | zero => cases e; exact ⟨_, List.mem_cons_self, h1⟩
              | succ i =>
                obtain ⟨d, m1, m2⟩ := ih h2 (by simpa using e)
                exact ⟨d, List.mem_cons_of_mem _ m1, m2⟩
        obtain ⟨d, md, pd⟩ := get dp hi
        refine ⟨_, rfl, x, d, rfl, pd, sm d md, _, rfl, x, d, rfl, pd, sm d md, _, rfl, _, rfl, iteF ?_⟩
        refine ⟨_, rfl, x, d, none, none, rfl, pd, _, rfl, x, d, rfl, pd, ?_⟩
        rw [isW_free]
        exact ⟨_, rfl, _, rfl, iteF ⟨rfl, _, rfl⟩⟩
      · rintro σ H2 ⟨rfl, v14, rfl⟩
        exact ⟨_, rfl⟩
    rintro σ' H13 ⟨v14, rfl⟩
    -- whole numbers between limits
    refine ⟨fun σ' H' => True, ?_, fun σ' H' _ => k H'⟩
    refine ⟨_, rfl, _, _, rfl, rfl, _, rfl, _, rfl, _, rfl, _, _, rfl, rfl, _, rfl, (by show 1 ≤ sizeLine; decide), fun p np => ⟨(by show 8 ≤ sizeLine; decide), fun L nL => ?_⟩⟩
    have eL : ∀ o, (upd (upd H13 p (.tup [.int l])) L o) L = some o := fun o => upd_same
    have pp : ∀ o, (upd (upd H13 p (.tup [.int l])) L o) p = some (.tup [.int l]) := fun o => by rw [upd_ne (ne_of_none upd_same nL), upd_same]
    refine ⟨L, rfl, ⟨_, SqL.of upd_same⟩, for_list (K := K) (a := L) (xs := [.int (l - 1), .int l, .int m, .int (m + 1), .bl true, .non, .str "1", .ref p]) (fun i σ' H2 => H2 = upd (upd H13 p (.tup [.int l])) L (.lst [.int (l - 1), .int l, .int m, .int (m + 1), .bl true, .non, .str "1", .ref p]) ∧ ∃ v14, σ' = S15 a h v2 v3 v4 v5 v6 (some (.int z)) (some (.ref D)) (some t9) w10 w11 (some (.int l)) (some (.int m)) v14)
        ⟨rfl, _, rfl⟩ (fun i σ H2 _ ⟨e, _⟩ => by rw [e]; exact SqL.of upd_same) ?_ (fun σ H2 _ => trivial)⟩
    rintro i x σ H2 hi ⟨e, v14', rfl⟩
    obtain ⟨d, pd⟩ : ∃ d, Dp K H2 x d := by
      rw [e]
      match i, hi with
      | 0, hi => cases hi; exact ⟨_, .int _⟩
      | 1, hi => cases hi; exact ⟨_, .int _⟩
      | 2, hi => cases hi; exact ⟨_, .int _⟩
      | 3, hi => cases hi; exact ⟨_, .int _⟩
      | 4, hi => cases hi; exact ⟨_, .bl _⟩
      | 5, hi => cases hi; exact ⟨_, .non⟩
      | 6, hi => cases hi; exact ⟨_, .str _⟩
      | 7, hi => cases hi; exact ⟨_, .tup (SqT.of (pp _)) (.cons (.int _) .nil)⟩
      | i + 8, hi => simp at hi
    refine ⟨fun σ' H' => H' = H2 ∧ σ' = S15 a h v2 v3 v4 v5 v6 (some (.int z)) (some (.ref D)) (some t9) w10 w11 (some (.int l)) (some (.int m)) (some x), ?_, ?_⟩
    · exact ⟨_, rfl, _, rfl, _, rfl, x, d, some l, some m, rfl, pd, _, rfl, _, rfl, _, rfl, x, d, l, m, rfl, pd, _, rfl, _, rfl, iteF ⟨rfl, rfl⟩⟩
    rintro σ' H3' ⟨rfl, rfl⟩
    refine ⟨fun σ' H' => H' = H3' ∧ σ' = S15 a h v2 v3 v4 v5 v6 (some (.int z)) (some (.ref D)) (some t9) w10 w11 (some (.int l)) (some (.int m)) (some x), ?_, ?_⟩
    · refine ⟨_, rfl, _, rfl, rfl, rfl, x, d, some l, none, rfl, pd, _, rfl, x, d, rfl, pd, _, rfl, ?_⟩
      cases i1 : isI d with
      | false =>
        have e2 : isW d (some l) none = false := by
          cases d <;> first | rfl | exact Bool.noConfusion (show true = false from i1)
        rw [e2]
        exact iteF ⟨_, rfl, _, rfl, iteF ⟨rfl, rfl⟩⟩
      | true =>
        obtain ⟨j, rfl⟩ : ∃ t, d = .int t := by
          cases d <;> first | exact ⟨_, rfl⟩ | exact Bool.noConfusion (show false = true from i1)
        cases pd
        have e2 : isW (.int j) (some l) none = decide (l ≤ j) := by
          show (decide (l ≤ j) && true) = _
          rw [Bool.and_true]
        rw [e2]
        exact iteT ⟨_, rfl, _, rfl, _, _, rfl, rfl, _, rfl, _, rfl, iteF ⟨rfl, rfl⟩⟩
    rintro σ' H4' ⟨rfl, rfl⟩
    refine ⟨_, rfl, _, rfl, rfl, rfl, x, d, none, some m, rfl, pd, _, rfl, x, d, rfl, pd, _, rfl, ?_⟩
    cases i1 : isI d with
    | false =>
      have e2 : isW d none (some m) = false := by
        cases d <;> first | rfl | exact Bool.noConfusion (show true = false from i1)
      rw [e2]
      exact iteF ⟨_, rfl, _, rfl, iteF ⟨e, _, rfl⟩⟩
    | true =>
      obtain ⟨j, rfl⟩ : ∃ t, d = .int t := by
        cases d <;> first | exact ⟨_, rfl⟩ | exact Bool.noConfusion (show false = true from i1)
      cases pd
      have e2 : isW (.int j) none (some m) = decide (j ≤ m) := by
        show (true && decide (j ≤ m)) = _
        rw [Bool.true_and]
      rw [e2]
      exact iteT ⟨_, rfl, _, rfl, _, _, rfl, rfl, _, rfl, _, rfl, iteF ⟨e, _, rfl⟩⟩
end
end K01
set_option Elab.async false
set_option linter.all false
set_option maxRecDepth 100000
set_option maxHeartbeats 16000000
set_option exponentiation.threshold 20000
namespace K01
open PySem L2
/-- a def as k_is finds it -/
structure At (K : PySem.W.Frag) (x : Str) (st : Stmt) (f : Addr) (fd : FuncData) : Prop where
  a : PySem.W.nsIn K mainGlobals x = some (some (.ref f))
  F : Fun K x x st f fd
theorem at_mk {K : PySem.W.Frag} {x : Str} {st : Stmt} {f : Addr} {oc : Value} {od an : Option Addr} {osl : Array (Option Value)} {kV doc pm cdv ct : Value}
    (a : PySem.W.nsIn K mainGlobals x = some (some (.ref f))) (l : K.lookup f = some ⟨oc, od, .func (PySem.W.fnOf x x (defArgs st) (defBody st) (defScope st) .none kV doc pm an cdv ct), osl⟩)
    (c : PySem.W.codeIn K cdv x = true) (k : PySem.W.keepIn K (.ref f) = true) : At K x st f (PySem.W.fnOf x x (defArgs st) (defBody st) (defScope st) .none kV doc pm an cdv ct) := ⟨a, fun_mk l c k⟩
structure AtD (K : PySem.W.Frag) (x : Str) (st : Stmt) (dvs : List V) (f : Addr) (fd : FuncData) : Prop where
  a : PySem.W.nsIn K mainGlobals x = some (some (.ref f))
  F : FunD K x x (defArgs st) (defBody st) (defScope st) dvs [] f fd
theorem exm_self {K : PySem.W.Frag} {S : Addr} (h1 : PySem.W.subIn K (.ref S) (.type "BaseException") = some true) (h2 : PySem.W.isClsIn K S = true) (h3 : PySem.W.typeIn K (.ref S) = some (.type "type")) (h4 : PySem.W.subIn K (.ref S) (.ref S) = some true) :
    PySem.W.exmOne K (.ref S) (.ref S) = some true := by
  have e1 : (PySem.W.subIn K (.ref S) (.type "BaseException") == some true) = true := by rw [h1] <;> rfl
  have e2 : ((PySem.W.clsIn K S).isSome && PySem.W.typeIn K (.ref S) == some (.type "type")) = true := by
    have h2' : (PySem.W.clsIn K S).isSome = true := h2
    rw [h2', h3] <;> rfl
  show (if (PySem.W.subIn K (.ref S) (.type "BaseException") == some true) = true then (if ((PySem.W.clsIn K S).isSome && PySem.W.typeIn K (.ref S) == some (.type "type")) = true then PySem.W.subIn K (.ref S) (.ref S) else none) else none) = some true
  rw [if_pos e1, if_pos e2]
  exact h4
/-- what the top has left, all facts together -/
structure All (K : PySem.W.Frag) : Type where

  f_law_hand : Addr
  d_law_hand : FuncData
  h_law_hand : At K "_law_hand" s_law_hand f_law_hand d_law_hand
  f_law_mixed : Addr
  d_law_mixed : FuncData
  h_law_mixed : At K "_law_mixed" s_law_mixed f_law_mixed d_law_mixed
  f_law_take : Addr
  d_law_take : FuncData
  h_law_take : At K "_law_take" s_law_take f_law_take d_law_take
  f_is_ratio : Addr
  d_is_ratio : FuncData
  h_is_ratio : At K "is_ratio" sis_ratio f_is_ratio d_is_ratio
  f_plus : Addr
  d_plus : FuncData
  h_plus : At K "plus" splus f_plus d_plus
  f_minus : Addr
  d_minus : FuncData
  h_minus : At K "minus" sminus f_minus d_minus
  f_times : Addr
  d_times : FuncData
  h_times : At K "times" stimes f_times d_times
  f_over : Addr
  d_over : FuncData
  h_over : At K "over" sover f_over d_over
  f_compare : Addr
  d_compare : FuncData
  h_compare : At K "compare" scompare f_compare d_compare
  f_sum_of : Addr
  d_sum_of : FuncData
  h_sum_of : At K "sum_of" ssum_of f_sum_of d_sum_of
  f_ratio_text : Addr
  d_ratio_text : FuncData
  h_ratio_text : At K "ratio_text" sratio_text f_ratio_text d_ratio_text
  f_law_part : Addr
  d_law_part : FuncData
  h_law_part : At K "_law_part" s_law_part f_law_part d_law_part
  f_law_ratio : Addr
  d_law_ratio : FuncData
  h_law_ratio : At K "_law_ratio" s_law_ratio f_law_ratio d_law_ratio
  f_law_plus : Addr
  d_law_plus : FuncData
  h_law_plus : At K "_law_plus" s_law_plus f_law_plus d_law_plus
  f_law_times : Addr
  d_law_times : FuncData
  h_law_times : At K "_law_times" s_law_times f_law_times d_law_times
  f_law_whole : Addr
  d_law_whole : FuncData
  h_law_whole : At K "_law_whole" s_law_whole f_law_whole d_law_whole
  f_law_truth : Addr
  d_law_truth : FuncData
  h_law_truth : At K "_law_truth" s_law_truth f_law_truth d_law_truth
  f_law_int : Addr
  d_law_int : FuncData
  h_law_int : At K "_law_int" s_law_int f_law_int d_law_int
  f_law_big : Addr
  d_law_big : FuncData
  h_law_big : At K "_law_big" s_law_big f_law_big d_law_big
  f_law_signed : Addr
  d_law_signed : FuncData
  h_law_signed : At K "_law_signed" s_law_signed f_law_signed d_law_signed
  f_law_is_ratio : Addr
  d_law_is_ratio : FuncData
  h_law_is_ratio : At K "_law_is_ratio" s_law_is_ratio f_law_is_ratio d_law_is_ratio
  f_law_same_ratio : Addr
  d_law_same_ratio : FuncData
  h_law_same_ratio : At K "_law_same_ratio" s_law_same_ratio f_law_same_ratio d_law_same_ratio
  f_law_make : Addr
  d_law_make : FuncData
  h_law_make : At K "_law_make" s_law_make f_law_make d_law_make
  f_law_over : Addr
  d_law_over : FuncData
  h_law_over : At K "_law_over" s_law_over f_law_over d_law_over
  f_law_number_or_odd : Addr
  d_law_number_or_odd : FuncData
  h_law_number_or_odd : At K "_law_number_or_odd" s_law_number_or_odd f_law_number_or_odd d_law_number_or_odd
  f_law_due : Addr
  d_law_due : FuncData
  h_law_due : At K "_law_due" s_law_due f_law_due d_law_due
  f_law_pair_right : Addr
  d_law_pair_right : FuncData
  h_law_pair_right : At K "_law_pair_right" s_law_pair_right f_law_pair_right d_law_pair_right
  f_law_things : Addr
  d_law_things : FuncData
  h_law_things : At K "_law_things" s_law_things f_law_things d_law_things
  f_law : Addr
  d_law : FuncData
  h_law : At K "law" slaw f_law d_law
  f_is_whole : Addr
  d_is_whole : FuncData
  h_is_whole : AtD K "is_whole" sis_whole [.non, .non] f_is_whole d_is_whole
  f_make_ratio : Addr
  d_make_ratio : FuncData
  h_make_ratio : AtD K "make_ratio" smake_ratio [.int 1] f_make_ratio d_make_ratio
  n_len : PySem.W.nsIn K mainGlobals "len" = some none
  n_abs : PySem.W.nsIn K mainGlobals "abs" = some none
  n_int : PySem.W.nsIn K mainGlobals "int" = some none
  n_range : PySem.W.nsIn K mainGlobals "range" = some none
  n_bool : PySem.W.nsIn K mainGlobals "bool" = some none
  n_tuple : PySem.W.nsIn K mainGlobals "tuple" = some none
  n_list : PySem.W.nsIn K mainGlobals "list" = some none
  n_str : PySem.W.nsIn K mainGlobals "str" = some none
  n_isinstance : PySem.W.nsIn K mainGlobals "isinstance" = some none
  gcd : PySem.W.nsIn K mainGlobals "gcd" = some (some (.builtin "math.gcd"))
  lcm : PySem.W.nsIn K mainGlobals "lcm" = some (some (.builtin "math.lcm"))
  zO : Addr
  gZ : PySem.W.nsIn K mainGlobals "ZERO" = some (some (.ref zO))
  vZ : SqT K (fun _ => none) zO [.int 0, .int 1]
  oO : Addr
  gO : PySem.W.nsIn K mainGlobals "ONE" = some (some (.ref oO))
  vO : SqT K (fun _ => none) oO [.int 1, .int 1]
  C : Addr
  fI : Addr
  low : ∀ mg, mg "BadRatio" = some (.ref C) → PySem.LowX.LowTxt K mg C fI
  aC : PySem.W.nsIn K mainGlobals "BadRatio" = some (some (.ref C))

theorem binds_of {K : PySem.W.Frag} {x : Str} {st : Stmt} {f : Addr} {fd : FuncData} {ps : List Str} (h : At K x st f fd)
    (e : ∀ (kV doc pm : Value) (an : Option Addr) (cdv ct : Value) (us : List Value), us.length = ps.length → bindArgs (PySem.W.fnOf x x (defArgs st) (defBody st) (defScope st) .none kV doc pm an cdv ct) ⟨us, []⟩ = pure (ps.zip us)) : Binds K fd ps [] := h.F.binds e
def All.tx {K : PySem.W.Frag} (A : All K) {h : Heap} {mg : Str → Option Value} (X : K.In h) (G : h.Ns mainGlobals mg) : Tx K mg where
  law_hand := ⟨A.f_law_hand, A.d_law_hand, A.h_law_hand.F, PySem.W.mg_of X G A.h_law_hand.a, binds_of A.h_law_hand fun _ _ _ _ _ _ us hl => match us, hl with | [_], _ => rfl⟩
  law_mixed := ⟨A.f_law_mixed, A.d_law_mixed, A.h_law_mixed.F, PySem.W.mg_of X G A.h_law_mixed.a, binds_of A.h_law_mixed fun _ _ _ _ _ _ us hl => match us, hl with | [_, _], _ => rfl⟩
  law_take := ⟨A.f_law_take, A.d_law_take, A.h_law_take.F, PySem.W.mg_of X G A.h_law_take.a, binds_of A.h_law_take fun _ _ _ _ _ _ us hl => match us, hl with | [_, _], _ => rfl⟩
  is_ratio := ⟨A.f_is_ratio, A.d_is_ratio, A.h_is_ratio.F, PySem.W.mg_of X G A.h_is_ratio.a, binds_of A.h_is_ratio fun _ _ _ _ _ _ us hl => match us, hl with | [_], _ => rfl⟩
  plus := ⟨A.f_plus, A.d_plus, A.h_plus.F, PySem.W.mg_of X G A.h_plus.a, binds_of A.h_plus fun _ _ _ _ _ _ us hl => match us, hl with | [_, _], _ => rfl⟩
  minus := ⟨A.f_minus, A.d_minus, A.h_minus.F, PySem.W.mg_of X G A.h_minus.a, binds_of A.h_minus fun _ _ _ _ _ _ us hl => match us, hl with | [_, _], _ => rfl⟩
  times := ⟨A.f_times, A.d_times, A.h_times.F, PySem.W.mg_of X G A.h_times.a, binds_of A.h_times fun _ _ _ _ _ _ us hl => match us, hl with | [_, _], _ => rfl⟩
  over := ⟨A.f_over, A.d_over, A.h_over.F, PySem.W.mg_of X G A.h_over.a, binds_of A.h_over fun _ _ _ _ _ _ us hl => match us, hl with | [_, _], _ => rfl⟩
  compare := ⟨A.f_compare, A.d_compare, A.h_compare.F, PySem.W.mg_of X G A.h_compare.a, binds_of A.h_compare fun _ _ _ _ _ _ us hl => match us, hl with | [_, _], _ => rfl⟩
  sum_of := ⟨A.f_sum_of, A.d_sum_of, A.h_sum_of.F, PySem.W.mg_of X G A.h_sum_of.a, binds_of A.h_sum_of fun _ _ _ _ _ _ us hl => match us, hl with | [_], _ => rfl⟩
  ratio_text := ⟨A.f_ratio_text, A.d_ratio_text, A.h_ratio_text.F, PySem.W.mg_of X G A.h_ratio_text.a, binds_of A.h_ratio_text fun _ _ _ _ _ _ us hl => match us, hl with | [_], _ => rfl⟩
  law_part := ⟨A.f_law_part, A.d_law_part, A.h_law_part.F, PySem.W.mg_of X G A.h_law_part.a, binds_of A.h_law_part fun _ _ _ _ _ _ us hl => match us, hl with | [_, _], _ => rfl⟩
  law_ratio := ⟨A.f_law_ratio, A.d_law_ratio, A.h_law_ratio.F, PySem.W.mg_of X G A.h_law_ratio.a, binds_of A.h_law_ratio fun _ _ _ _ _ _ us hl => match us, hl with | [_, _], _ => rfl⟩
  law_plus := ⟨A.f_law_plus, A.d_law_plus, A.h_law_plus.F, PySem.W.mg_of X G A.h_law_plus.a, binds_of A.h_law_plus fun _ _ _ _ _ _ us hl => match us, hl with | [_, _], _ => rfl⟩
  law_times := ⟨A.f_law_times, A.d_law_times, A.h_law_times.F, PySem.W.mg_of X G A.h_law_times.a, binds_of A.h_law_times fun _ _ _ _ _ _ us hl => match us, hl with | [_, _], _ => rfl⟩
  law_whole := ⟨A.f_law_whole, A.d_law_whole, A.h_law_whole.F, PySem.W.mg_of X G A.h_law_whole.a, binds_of A.h_law_whole fun _ _ _ _ _ _ us hl => match us, hl with | [_, _, _], _ => rfl⟩
  law_truth := ⟨A.f_law_truth, A.d_law_truth, A.h_law_truth.F, PySem.W.mg_of X G A.h_law_truth.a, binds_of A.h_law_truth fun _ _ _ _ _ _ us hl => match us, hl with | [_, _], _ => rfl⟩
  law_int := ⟨A.f_law_int, A.d_law_int, A.h_law_int.F, PySem.W.mg_of X G A.h_law_int.a, binds_of A.h_law_int fun _ _ _ _ _ _ us hl => match us, hl with | [_], _ => rfl⟩
  law_big := ⟨A.f_law_big, A.d_law_big, A.h_law_big.F, PySem.W.mg_of X G A.h_law_big.a, binds_of A.h_law_big fun _ _ _ _ _ _ us hl => match us, hl with | [_], _ => rfl⟩
  law_signed := ⟨A.f_law_signed, A.d_law_signed, A.h_law_signed.F, PySem.W.mg_of X G A.h_law_signed.a, binds_of A.h_law_signed fun _ _ _ _ _ _ us hl => match us, hl with | [_], _ => rfl⟩
  law_is_ratio := ⟨A.f_law_is_ratio, A.d_law_is_ratio, A.h_law_is_ratio.F, PySem.W.mg_of X G A.h_law_is_ratio.a, binds_of A.h_law_is_ratio fun _ _ _ _ _ _ us hl => match us, hl with | [_], _ => rfl⟩
  law_same_ratio := ⟨A.f_law_same_ratio, A.d_law_same_ratio, A.h_law_same_ratio.F, PySem.W.mg_of X G A.h_law_same_ratio.a, binds_of A.h_law_same_ratio fun _ _ _ _ _ _ us hl => match us, hl with | [_, _], _ => rfl⟩
  law_make := ⟨A.f_law_make, A.d_law_make, A.h_law_make.F, PySem.W.mg_of X G A.h_law_make.a, binds_of A.h_law_make fun _ _ _ _ _ _ us hl => match us, hl with | [_, _], _ => rfl⟩
  law_over := ⟨A.f_law_over, A.d_law_over, A.h_law_over.F, PySem.W.mg_of X G A.h_law_over.a, binds_of A.h_law_over fun _ _ _ _ _ _ us hl => match us, hl with | [_, _], _ => rfl⟩
  law_number_or_odd := ⟨A.f_law_number_or_odd, A.d_law_number_or_odd, A.h_law_number_or_odd.F, PySem.W.mg_of X G A.h_law_number_or_odd.a, binds_of A.h_law_number_or_odd fun _ _ _ _ _ _ us hl => match us, hl with | [_], _ => rfl⟩
  law_due := ⟨A.f_law_due, A.d_law_due, A.h_law_due.F, PySem.W.mg_of X G A.h_law_due.a, binds_of A.h_law_due fun _ _ _ _ _ _ us hl => match us, hl with | [_, _], _ => rfl⟩
  law_pair_right := ⟨A.f_law_pair_right, A.d_law_pair_right, A.h_law_pair_right.F, PySem.W.mg_of X G A.h_law_pair_right.a, binds_of A.h_law_pair_right fun _ _ _ _ _ _ us hl => match us, hl with | [_, _], _ => rfl⟩
  law_things := ⟨A.f_law_things, A.d_law_things, A.h_law_things.F, PySem.W.mg_of X G A.h_law_things.a, binds_of A.h_law_things fun _ _ _ _ _ _ us hl => match us, hl with | [_], _ => rfl⟩
  is_whole := ⟨A.f_is_whole, A.d_is_whole, A.h_is_whole.F, PySem.W.mg_of X G A.h_is_whole.a, fun j hj => match j, hj with
    | 0, _ => A.h_is_whole.F.binds1 1 0 (by simp) rfl fun T kV doc pm an cdv ct us its h1 h2 => match us, its, h1, h2 with | [_], [_, _], _, _ => ⟨_, rfl, rfl⟩
    | 1, _ => A.h_is_whole.F.binds1 2 1 (by simp) rfl fun T kV doc pm an cdv ct us its h1 h2 => match us, its, h1, h2 with | [_, _], [_, _], _, _ => ⟨_, rfl, rfl⟩
    | 2, _ => A.h_is_whole.F.binds1 3 2 (by simp) rfl fun T kV doc pm an cdv ct us its h1 h2 => match us, its, h1, h2 with | [_, _, _], [_, _], _, _ => ⟨_, rfl, rfl⟩
    | j + 3, hj => absurd hj (by simp)⟩
  make_ratio := ⟨A.f_make_ratio, A.d_make_ratio, A.h_make_ratio.F, PySem.W.mg_of X G A.h_make_ratio.a, fun j hj => match j, hj with
    | 0, _ => A.h_make_ratio.F.binds1 1 0 (by simp) rfl fun T kV doc pm an cdv ct us its h1 h2 => match us, its, h1, h2 with | [_], [_], _, _ => ⟨_, rfl, rfl⟩
    | 1, _ => A.h_make_ratio.F.binds1 2 1 (by simp) rfl fun T kV doc pm an cdv ct us its h1 h2 => match us, its, h1, h2 with | [_, _], [_], _, _ => ⟨_, rfl, rfl⟩
    | j + 2, hj => absurd hj (by simp)⟩
  C := A.C
  fI := A.fI
  low := A.low mg (PySem.W.mg_of X G A.aC)
  ggcd := PySem.W.mg_of X G A.gcd
  glcm := PySem.W.mg_of X G A.lcm
  zO := A.zO
  gZERO := PySem.W.mg_of X G A.gZ
  vZERO := A.vZ
  oO := A.oO
  gONE := PySem.W.mg_of X G A.gO
  vONE := A.vO
  len := PySem.W.mg_none_of X G A.n_len
  abs := PySem.W.mg_none_of X G A.n_abs
  int := PySem.W.mg_none_of X G A.n_int
  range := PySem.W.mg_none_of X G A.n_range
  bool := PySem.W.mg_none_of X G A.n_bool
  tuple := PySem.W.mg_none_of X G A.n_tuple
  list := PySem.W.mg_none_of X G A.n_list
  str := PySem.W.mg_none_of X G A.n_str
  isinstance := PySem.W.mg_none_of X G A.n_isinstance

theorem all_mk {l : PySem.W.OpenLaw} {w : World} {K : PySem.W.Frag} {h : Heap} {mg : Str → Option Value} {fa : Addr} (X : K.In h) (G : h.Ns mainGlobals mg) (hfa : mg "law" = some (.ref fa)) (A : All K) :
    ∃ fd : FuncData, (∀ (s : Shared) (v : Value), BindsTo s fd ⟨[v], []⟩ [("_law_script", v)]) ∧ ∀ base : Heap, K.In base → base.Ns mainGlobals mg → FnOk l.prog w K mg base CX0 6 fa fd ["_law_script"] (spLaw K) := by
  have e := hfa.symm.trans (PySem.W.mg_of X G A.h_law.a)
  cases e
  obtain ⟨oc, od, kV, doc, pm, an, cdv, ct, osl, e, lk, hcd⟩ := id A.h_law.F.ex
  refine ⟨A.d_law, fun s v => ?_, fun base _ _ => ok_law A.f_law A.d_law A.h_law.F (A.tx X G)⟩
  rw [e]
  exact .of_eq rfl
theorem walk {l : PySem.W.OpenLaw} {q : Program} {loose : List Str} {XP : (Str → Option Value) → Heap → Prop} {YP : World → Heap → Prop} {d : DefRec} {K : Params → PySem.W.Frag} (hn : l.most = some 63) (hdf : d.params.defaults = [])
    (hY : ∀ (w : World) (h : Heap), YP w h → (K w.params).In h)
    (F : ∀ (w : World) (mg : Str → Option Value) (fa : Addr) (h : Heap), (K w.params).In h → h.Ns mainGlobals mg → mg d.name = some (.ref fa) →
      ∃ fd : FuncData, (∀ (s : Shared) (u : Value), BindsTo s fd ⟨[u], []⟩ [("_law_script", u)]) ∧ ∀ base : Heap, (K w.params).In base → base.Ns mainGlobals mg → FnOk l.prog w (K w.params) mg base CX0 6 fa fd ["_law_script"] (spLaw (K w.params))) :
    PySem.W.WalkO q loose XP YP l.row.toRowW d [] (fun f vs => PySem.call f vs) :=
  L2.walk_of (n := 63) (k := 6) (x := "_law_script") (CX := fun _ => CX0) (sp := fun w => spLaw (K w.params)) hn (by decide) hdf ⟨rfl, by decide, by decide⟩ hY F (fun _ _ a ns hl _ hS => ⟨a, ns, rfl, hS, hl, fun _ => rfl⟩) fun _ _ _ _ _ z => z

theorem fin {l : PySem.W.OpenLaw} {w : World} {K : PySem.W.Frag} {h : Heap} {mg : Str → Option Value} {fa : Addr} (X : K.In h) (G : h.Ns mainGlobals mg) (hfa : mg "law" = some (.ref fa))
    {f0 f1 f2 f3 f4 f5 f6 f7 f8 f9 f10 f11 f12 f13 f14 f15 f16 f17 f18 f19 f20 f21 f22 f23 f24 f25 f26 f27 f28 f29 f30 : Addr} {oc0 oc1 oc2 oc3 oc4 oc5 oc6 oc7 oc8 oc9 oc10 oc11 oc12 oc13 oc14 oc15 oc16 oc17 oc18 oc19 oc20 oc21 oc22 oc23 oc24 oc25 oc26 oc27 oc28 oc29 oc30 : Value} {od0 od1 od2 od3 od4 od5 od6 od7 od8 od9 od10 od11 od12 od13 od14 od15 od16 od17 od18 od19 od20 od21 od22 od23 od24 od25 od26 od27 od28 od29 od30 an0 an1 an2 an3 an4 an5 an6 an7 an8 an9 an10 an11 an12 an13 an14 an15 an16 an17 an18 an19 an20 an21 an22 an23 an24 an25 an26 an27 an28 an29 an30 : Option Addr} {sl0 sl1 sl2 sl3 sl4 sl5 sl6 sl7 sl8 sl9 sl10 sl11 sl12 sl13 sl14 sl15 sl16 sl17 sl18 sl19 sl20 sl21 sl22 sl23 sl24 sl25 sl26 sl27 sl28 sl29 sl30 : Array (Option Value)} {kV0 kV1 kV2 kV3 kV4 kV5 kV6 kV7 kV8 kV9 kV10 kV11 kV12 kV13 kV14 kV15 kV16 kV17 kV18 kV19 kV20 kV21 kV22 kV23 kV24 kV25 kV26 kV27 kV28 kV29 kV30 dc0 dc1 dc2 dc3 dc4 dc5 dc6 dc7 dc8 dc9 dc10 dc11 dc12 dc13 dc14 dc15 dc16 dc17 dc18 dc19 dc20 dc21 dc22 dc23 dc24 dc25 dc26 dc27 dc28 dc29 dc30 pm0 pm1 pm2 pm3 pm4 pm5 pm6 pm7 pm8 pm9 pm10 pm11 pm12 pm13 pm14 pm15 pm16 pm17 pm18 pm19 pm20 pm21 pm22 pm23 pm24 pm25 pm26 pm27 pm28 pm29 pm30 cd0 cd1 cd2 cd3 cd4 cd5 cd6 cd7 cd8 cd9 cd10 cd11 cd12 cd13 cd14 cd15 cd16 cd17 cd18 cd19 cd20 cd21 cd22 cd23 cd24 cd25 cd26 cd27 cd28 cd29 cd30 ct0 ct1 ct2 ct3 ct4 ct5 ct6 ct7 ct8 ct9 ct10 ct11 ct12 ct13 ct14 ct15 ct16 ct17 ct18 ct19 ct20 ct21 ct22 ct23 ct24 ct25 ct26 ct27 ct28 ct29 ct30 : Value} {T29 T30 : Addr} {dT0 dT1 : Option Addr} {cT0 cT1 : Value} {nT0 nT1 : Nat} {sT0 sT1 : Array (Option Value)} {tk : Tok}
    (a0 : PySem.W.nsIn K mainGlobals "_law_hand" = some (some (.ref f0))) (l0 : K.lookup f0 = some ⟨oc0, od0, .func (PySem.W.fnOf "_law_hand" "_law_hand" (defArgs s_law_hand) (defBody s_law_hand) (defScope s_law_hand) .none kV0 dc0 pm0 an0 cd0 ct0), sl0⟩) (c0 : PySem.W.codeIn K cd0 "_law_hand" = true) (k0 : PySem.W.keepIn K (.ref f0) = true)
    (a1 : PySem.W.nsIn K mainGlobals "_law_mixed" = some (some (.ref f1))) (l1 : K.lookup f1 = some ⟨oc1, od1, .func (PySem.W.fnOf "_law_mixed" "_law_mixed" (defArgs s_law_mixed) (defBody s_law_mixed) (defScope s_law_mixed) .none kV1 dc1 pm1 an1 cd1 ct1), sl1⟩) (c1 : PySem.W.codeIn K cd1 "_law_mixed" = true) (k1 : PySem.W.keepIn K (.ref f1) = true)
    (a2 : PySem.W.nsIn K mainGlobals "_law_take" = some (some (.ref f2))) (l2 : K.lookup f2 = some ⟨oc2, od2, .func (PySem.W.fnOf "_law_take" "_law_take" (defArgs s_law_take) (defBody s_law_take) (defScope s_law_take) .none kV2 dc2 pm2 an2 cd2 ct2), sl2⟩) (c2 : PySem.W.codeIn K cd2 "_law_take" = true) (k2 : PySem.W.keepIn K (.ref f2) = true)
    (a3 : PySem.W.nsIn K mainGlobals "is_ratio" = some (some (.ref f3))) (l3 : K.lookup f3 = some ⟨oc3, od3, .func (PySem.W.fnOf "is_ratio" "is_ratio" (defArgs sis_ratio) (defBody sis_ratio) (defScope sis_ratio) .none kV3 dc3 pm3 an3 cd3 ct3), sl3⟩) (c3 : PySem.W.codeIn K cd3 "is_ratio" = true) (k3 : PySem.W.keepIn K (.ref f3) = true)
    (a4 : PySem.W.nsIn K mainGlobals "plus" = some (some (.ref f4))) (l4 : K.lookup f4 = some ⟨oc4, od4, .func (PySem.W.fnOf "plus" "plus" (defArgs splus) (defBody splus) (defScope splus) .none kV4 dc4 pm4 an4 cd4 ct4), sl4⟩) (c4 : PySem.W.codeIn K cd4 "plus" = true) (k4 : PySem.W.keepIn K (.ref f4) = true)
    (a5 : PySem.W.nsIn K mainGlobals "minus" = some (some (.ref f5))) (l5 : K.lookup f5 = some ⟨oc5, od5, .func (PySem.W.fnOf "minus" "minus" (defArgs sminus) (defBody sminus) (defScope sminus) .none kV5 dc5 pm5 an5 cd5 ct5), sl5⟩) (c5 : PySem.W.codeIn K cd5 "minus" = true) (k5 : PySem.W.keepIn K (.ref f5) = true)
    (a6 : PySem.W.nsIn K mainGlobals "times" = some (some (.ref f6))) (l6 : K.lookup f6 = some ⟨oc6, od6, .func (PySem.W.fnOf "times" "times" (defArgs stimes) (defBody stimes) (defScope stimes) .none kV6 dc6 pm6 an6 cd6 ct6), sl6⟩) (c6 : PySem.W.codeIn K cd6 "times" = true) (k6 : PySem.W.keepIn K (.ref f6) = true)
    (a7 : PySem.W.nsIn K mainGlobals "over" = some (some (.ref f7))) (l7 : K.lookup f7 = some ⟨oc7, od7, .func (PySem.W.fnOf "over" "over" (defArgs sover) (defBody sover) (defScope sover) .none kV7 dc7 pm7 an7 cd7 ct7), sl7⟩) (c7 : PySem.W.codeIn K cd7 "over" = true) (k7 : PySem.W.keepIn K (.ref f7) = true)
    (a8 : PySem.W.nsIn K mainGlobals "compare" = some (some (.ref f8))) (l8 : K.lookup f8 = some ⟨oc8, od8, .func (PySem.W.fnOf "compare" "compare" (defArgs scompare) (defBody scompare) (defScope scompare) .none kV8 dc8 pm8 an8 cd8 ct8), sl8⟩) (c8 : PySem.W.codeIn K cd8 "compare" = true) (k8 : PySem.W.keepIn K (.ref f8) = true)
    (a9 : PySem.W.nsIn K mainGlobals "sum_of" = some (some (.ref f9))) (l9 : K.lookup f9 = some ⟨oc9, od9, .func (PySem.W.fnOf "sum_of" "sum_of" (defArgs ssum_of) (defBody ssum_of) (defScope ssum_of) .none kV9 dc9 pm9 an9 cd9 ct9), sl9⟩) (c9 : PySem.W.codeIn K cd9 "sum_of" = true) (k9 : PySem.W.keepIn K (.ref f9) = true)
    (a10 : PySem.W.nsIn K mainGlobals "ratio_text" = some (some (.ref f10))) (l10 : K.lookup f10 = some ⟨oc10, od10, .func (PySem.W.fnOf "ratio_text" "ratio_text" (defArgs sratio_text) (defBody sratio_text) (defScope sratio_text) .none kV10 dc10 pm10 an10 cd10 ct10), sl10⟩) (c10 : PySem.W.codeIn K cd10 "ratio_text" = true) (k10 : PySem.W.keepIn K (.ref f10) = true)
    (a11 : PySem.W.nsIn K mainGlobals "_law_part" = some (some (.ref f11))) (l11 : K.lookup f11 = some ⟨oc11, od11, .func (PySem.W.fnOf "_law_part" "_law_part" (defArgs s_law_part) (defBody s_law_part) (defScope s_law_part) .none kV11 dc11 pm11 an11 cd11 ct11), sl11⟩) (c11 : PySem.W.codeIn K cd11 "_law_part" = true) (k11 : PySem.W.keepIn K (.ref f11) = true)
    (a12 : PySem.W.nsIn K mainGlobals "_law_ratio" = some (some (.ref f12))) (l12 : K.lookup f12 = some ⟨oc12, od12, .func (PySem.W.fnOf "_law_ratio" "_law_ratio" (defArgs s_law_ratio) (defBody s_law_ratio) (defScope s_law_ratio) .none kV12 dc12 pm12 an12 cd12 ct12), sl12⟩) (c12 : PySem.W.codeIn K cd12 "_law_ratio" = true) (k12 : PySem.W.keepIn K (.ref f12) = true)
    (a13 : PySem.W.nsIn K mainGlobals "_law_plus" = some (some (.ref f13))) (l13 : K.lookup f13 = some ⟨oc13, od13, .func (PySem.W.fnOf "_law_plus" "_law_plus" (defArgs s_law_plus) (defBody s_law_plus) (defScope s_law_plus) .none kV13 dc13 pm13 an13 cd13 ct13), sl13⟩) (c13 : PySem.W.codeIn K cd13 "_law_plus" = true) (k13 : PySem.W.keepIn K (.ref f13) = true)
    (a14 : PySem.W.nsIn K mainGlobals "_law_times" = some (some (.ref f14))) (l14 : K.lookup f14 = some ⟨oc14, od14, .func (PySem.W.fnOf "_law_times" "_law_times" (defArgs s_law_times) (defBody s_law_times) (defScope s_law_times) .none kV14 dc14 pm14 an14 cd14 ct14), sl14⟩) (c14 : PySem.W.codeIn K cd14 "_law_times" = true) (k14 : PySem.W.keepIn K (.ref f14) = true)
    (a15 : PySem.W.nsIn K mainGlobals "_law_whole" = some (some (.ref f15))) (l15 : K.lookup f15 = some ⟨oc15, od15, .func (PySem.W.fnOf "_law_whole" "_law_whole" (defArgs s_law_whole) (defBody s_law_whole) (defScope s_law_whole) .none kV15 dc15 pm15 an15 cd15 ct15), sl15⟩) (c15 : PySem.W.codeIn K cd15 "_law_whole" = true) (k15 : PySem.W.keepIn K (.ref f15) = true)
    (a16 : PySem.W.nsIn K mainGlobals "_law_truth" = some (some (.ref f16))) (l16 : K.lookup f16 = some ⟨oc16, od16, .func (PySem.W.fnOf "_law_truth" "_law_truth" (defArgs s_law_truth) (defBody s_law_truth) (defScope s_law_truth) .none kV16 dc16 pm16 an16 cd16 ct16), sl16⟩) (c16 : PySem.W.codeIn K cd16 "_law_truth" = true) (k16 : PySem.W.keepIn K (.ref f16) = true)
    (a17 : PySem.W.nsIn K mainGlobals "_law_int" = some (some (.ref f17))) (l17 : K.lookup f17 = some ⟨oc17, od17, .func (PySem.W.fnOf "_law_int" "_law_int" (defArgs s_law_int) (defBody s_law_int) (defScope s_law_int) .none kV17 dc17 pm17 an17 cd17 ct17), sl17⟩) (c17 : PySem.W.codeIn K cd17 "_law_int" = true) (k17 : PySem.W.keepIn K (.ref f17) = true)
    (a18 : PySem.W.nsIn K mainGlobals "_law_big" = some (some (.ref f18))) (l18 : K.lookup f18 = some ⟨oc18, od18, .func (PySem.W.fnOf "_law_big" "_law_big" (defArgs s_law_big) (defBody s_law_big) (defScope s_law_big) .none kV18 dc18 pm18 an18 cd18 ct18), sl18⟩) (c18 : PySem.W.codeIn K cd18 "_law_big" = true) (k18 : PySem.W.keepIn K (.ref f18) = true)
    (a19 : PySem.W.nsIn K mainGlobals "_law_signed" = some (some (.ref f19))) (l19 : K.lookup f19 = some ⟨oc19, od19, .func (PySem.W.fnOf "_law_signed" "_law_signed" (defArgs s_law_signed) (defBody s_law_signed) (defScope s_law_signed) .none kV19 dc19 pm19 an19 cd19 ct19), sl19⟩) (c19 : PySem.W.codeIn K cd19 "_law_signed" = true) (k19 : PySem.W.keepIn K (.ref f19) = true)
    (a20 : PySem.W.nsIn K mainGlobals "_law_is_ratio" = some (some (.ref f20))) (l20 : K.lookup f20 = some ⟨oc20, od20, .func (PySem.W.fnOf "_law_is_ratio" "_law_is_ratio" (defArgs s_law_is_ratio) (defBody s_law_is_ratio) (defScope s_law_is_ratio) .none kV20 dc20 pm20 an20 cd20 ct20), sl20⟩) (c20 : PySem.W.codeIn K cd20 "_law_is_ratio" = true) (k20 : PySem.W.keepIn K (.ref f20) = true)
    (a21 : PySem.W.nsIn K mainGlobals "_law_same_ratio" = some (some (.ref f21))) (l21 : K.lookup f21 = some ⟨oc21, od21, .func (PySem.W.fnOf "_law_same_ratio" "_law_same_ratio" (defArgs s_law_same_ratio) (defBody s_law_same_ratio) (defScope s_law_same_ratio) .none kV21 dc21 pm21 an21 cd21 ct21), sl21⟩) (c21 : PySem.W.codeIn K cd21 "_law_same_ratio" = true) (k21 : PySem.W.keepIn K (.ref f21) = true)
    (a22 : PySem.W.nsIn K mainGlobals "_law_make" = some (some (.ref f22))) (l22 : K.lookup f22 = some ⟨oc22, od22, .func (PySem.W.fnOf "_law_make" "_law_make" (defArgs s_law_make) (defBody s_law_make) (defScope s_law_make) .none kV22 dc22 pm22 an22 cd22 ct22), sl22⟩) (c22 : PySem.W.codeIn K cd22 "_law_make" = true) (k22 : PySem.W.keepIn K (.ref f22) = true)
    (a23 : PySem.W.nsIn K mainGlobals "_law_over" = some (some (.ref f23))) (l23 : K.lookup f23 = some ⟨oc23, od23, .func (PySem.W.fnOf "_law_over" "_law_over" (defArgs s_law_over) (defBody s_law_over) (defScope s_law_over) .none kV23 dc23 pm23 an23 cd23 ct23), sl23⟩) (c23 : PySem.W.codeIn K cd23 "_law_over" = true) (k23 : PySem.W.keepIn K (.ref f23) = true)
    (a24 : PySem.W.nsIn K mainGlobals "_law_number_or_odd" = some (some (.ref f24))) (l24 : K.lookup f24 = some ⟨oc24, od24, .func (PySem.W.fnOf "_law_number_or_odd" "_law_number_or_odd" (defArgs s_law_number_or_odd) (defBody s_law_number_or_odd) (defScope s_law_number_or_odd) .none kV24 dc24 pm24 an24 cd24 ct24), sl24⟩) (c24 : PySem.W.codeIn K cd24 "_law_number_or_odd" = true) (k24 : PySem.W.keepIn K (.ref f24) = true)
    (a25 : PySem.W.nsIn K mainGlobals "_law_due" = some (some (.ref f25))) (l25 : K.lookup f25 = some ⟨oc25, od25, .func (PySem.W.fnOf "_law_due" "_law_due" (defArgs s_law_due) (defBody s_law_due) (defScope s_law_due) .none kV25 dc25 pm25 an25 cd25 ct25), sl25⟩) (c25 : PySem.W.codeIn K cd25 "_law_due" = true) (k25 : PySem.W.keepIn K (.ref f25) = true)
    (a26 : PySem.W.nsIn K mainGlobals "_law_pair_right" = some (some (.ref f26))) (l26 : K.lookup f26 = some ⟨oc26, od26, .func (PySem.W.fnOf "_law_pair_right" "_law_pair_right" (defArgs s_law_pair_right) (defBody s_law_pair_right) (defScope s_law_pair_right) .none kV26 dc26 pm26 an26 cd26 ct26), sl26⟩) (c26 : PySem.W.codeIn K cd26 "_law_pair_right" = true) (k26 : PySem.W.keepIn K (.ref f26) = true)
    (a27 : PySem.W.nsIn K mainGlobals "_law_things" = some (some (.ref f27))) (l27 : K.lookup f27 = some ⟨oc27, od27, .func (PySem.W.fnOf "_law_things" "_law_things" (defArgs s_law_things) (defBody s_law_things) (defScope s_law_things) .none kV27 dc27 pm27 an27 cd27 ct27), sl27⟩) (c27 : PySem.W.codeIn K cd27 "_law_things" = true) (k27 : PySem.W.keepIn K (.ref f27) = true)
    (a28 : PySem.W.nsIn K mainGlobals "law" = some (some (.ref f28))) (l28 : K.lookup f28 = some ⟨oc28, od28, .func (PySem.W.fnOf "law" "law" (defArgs slaw) (defBody slaw) (defScope slaw) .none kV28 dc28 pm28 an28 cd28 ct28), sl28⟩) (c28 : PySem.W.codeIn K cd28 "law" = true) (k28 : PySem.W.keepIn K (.ref f28) = true)
    (a29 : PySem.W.nsIn K mainGlobals "is_whole" = some (some (.ref f29))) (l29 : K.lookup f29 = some ⟨oc29, od29, .func (PySem.W.fnOf "is_whole" "is_whole" (defArgs sis_whole) (defBody sis_whole) (defScope sis_whole) (.ref T29) kV29 dc29 pm29 an29 cd29 ct29), sl29⟩) (c29 : PySem.W.codeIn K cd29 "is_whole" = true) (k29 : PySem.W.keepIn K (.ref f29) = true)
    (a30 : PySem.W.nsIn K mainGlobals "make_ratio" = some (some (.ref f30))) (l30 : K.lookup f30 = some ⟨oc30, od30, .func (PySem.W.fnOf "make_ratio" "make_ratio" (defArgs smake_ratio) (defBody smake_ratio) (defScope smake_ratio) (.ref T30) kV30 dc30 pm30 an30 cd30 ct30), sl30⟩) (c30 : PySem.W.codeIn K cd30 "make_ratio" = true) (k30 : PySem.W.keepIn K (.ref f30) = true)
    (lT0 : K.lookup T29 = some ⟨cT0, dT0, .seq #[.none, .none] nT0, sT0⟩) (lT1 : K.lookup T30 = some ⟨cT1, dT1, .seq #[.int 1 tk] nT1, sT1⟩)
    (n_len : PySem.W.nsIn K mainGlobals "len" = some none)
    (n_abs : PySem.W.nsIn K mainGlobals "abs" = some none)
    (n_int : PySem.W.nsIn K mainGlobals "int" = some none)
    (n_range : PySem.W.nsIn K mainGlobals "range" = some none)
    (n_bool : PySem.W.nsIn K mainGlobals "bool" = some none)
    (n_tuple : PySem.W.nsIn K mainGlobals "tuple" = some none)
    (n_list : PySem.W.nsIn K mainGlobals "list" = some none)
    (n_str : PySem.W.nsIn K mainGlobals "str" = some none)
    (n_isinstance : PySem.W.nsIn K mainGlobals "isinstance" = some none)
    (gcd : PySem.W.nsIn K mainGlobals "gcd" = some (some (.builtin "math.gcd"))) (lcm : PySem.W.nsIn K mainGlobals "lcm" = some (some (.builtin "math.lcm")))
    {zO oO : Addr} {dz do_ : Option Addr} {z1 z2 o1 o2 : Tok} {nz no : Nat} {sz so : Array (Option Value)}
    (gZ : PySem.W.nsIn K mainGlobals "ZERO" = some (some (.ref zO))) (lZ : K.lookup zO = some ⟨.type "tuple", dz, .seq #[.int 0 z1, .int 1 z2] nz, sz⟩)
    (gO : PySem.W.nsIn K mainGlobals "ONE" = some (some (.ref oO))) (lO : K.lookup oO = some ⟨.type "tuple", do_, .seq #[.int 1 o1, .int 1 o2] no, so⟩)
    {C LE fI N : Addr} {nm q : Str} {bs : List Value} {sn : List Str} {sub : List Value} {ab : Bool} {col : Option Bool} {dd : Option Addr} {m0 m1 m2 m3 m5 : Option Value} {oci : Value} {odi ani : Option Addr} {sli : Array (Option Value)} {dci pmi cdi cti : Value}
    (aC : PySem.W.nsIn K mainGlobals "BadRatio" = some (some (.ref C)))
    (xL : K.lookup C = some (PySem.excClassObj nm q C N bs [.ref LE, .type "ValueError", .type "Exception", .type "BaseException", .type "object"] true sn sub ab col dd m0 m1 m2 m3 m5 "ValueError.__new__"))
    (sa : PySem.W.findIn K (.ref C) "__setattr__" = some (some (.builtin "object.__setattr__"))) (ga : PySem.W.findIn K (.ref C) "__getattribute__" = some (some (.builtin "BaseException.__getattribute__"))) (gg : PySem.W.findIn K (.ref C) "__getattr__" = some none) (nb : PySem.W.findIn K (.ref C) "what" = some none)
    (ai : PySem.W.findIn K (.ref C) "__init__" = some (some (.ref fI))) (ti : PySem.W.typeIn K (.ref fI) = some (.type "function"))
    (li : K.lookup fI = some ⟨oci, odi, .func (PySem.W.fnOf "__init__" "BadRatio.__init__" (PySem.LowX.iA ⟨7, 17, 7, 21⟩ ⟨7, 23, 7, 27⟩) (PySem.LowX.iB ⟨8, 8, 8, 12⟩ ⟨8, 8, 8, 17⟩ ⟨8, 20, 8, 24⟩ ⟨8, 8, 8, 24⟩) PySem.LowX.iS .none .none dci pmi ani cdi cti), sli⟩) (ci : PySem.W.codeIn K cdi "BadRatio.__init__" = true)
    (kC : PySem.W.keepIn K (.ref C) = true) (eC : PySem.W.subIn K (.ref C) (.type "BaseException") = some true) (tC : PySem.W.typeIn K (.ref C) = some (.type "type")) (hC : PySem.W.hasDictIn K C = true) (iC : PySem.W.isClsIn K C = true) (sC : PySem.W.subIn K (.ref C) (.ref C) = some true) :
    ∃ fd : FuncData, (∀ (s : Shared) (v : Value), BindsTo s fd ⟨[v], []⟩ [("_law_script", v)]) ∧ ∀ base : Heap, K.In base → base.Ns mainGlobals mg → FnOk l.prog w K mg base CX0 6 fa fd ["_law_script"] (spLaw K) := by
  refine all_mk X G hfa ?_
  exact {
    f_law_hand := f0, d_law_hand := _, h_law_hand := at_mk a0 l0 c0 k0,
    f_law_mixed := f1, d_law_mixed := _, h_law_mixed := at_mk a1 l1 c1 k1,
    f_law_take := f2, d_law_take := _, h_law_take := at_mk a2 l2 c2 k2,
    f_is_ratio := f3, d_is_ratio := _, h_is_ratio := at_mk a3 l3 c3 k3,
    f_plus := f4, d_plus := _, h_plus := at_mk a4 l4 c4 k4,
    f_minus := f5, d_minus := _, h_minus := at_mk a5 l5 c5 k5,
    f_times := f6, d_times := _, h_times := at_mk a6 l6 c6 k6,
    f_over := f7, d_over := _, h_over := at_mk a7 l7 c7 k7,
    f_compare := f8, d_compare := _, h_compare := at_mk a8 l8 c8 k8,
    f_sum_of := f9, d_sum_of := _, h_sum_of := at_mk a9 l9 c9 k9,
    f_ratio_text := f10, d_ratio_text := _, h_ratio_text := at_mk a10 l10 c10 k10,
    f_law_part := f11, d_law_part := _, h_law_part := at_mk a11 l11 c11 k11,
    f_law_ratio := f12, d_law_ratio := _, h_law_ratio := at_mk a12 l12 c12 k12,
    f_law_plus := f13, d_law_plus := _, h_law_plus := at_mk a13 l13 c13 k13,
    f_law_times := f14, d_law_times := _, h_law_times := at_mk a14 l14 c14 k14,
    f_law_whole := f15, d_law_whole := _, h_law_whole := at_mk a15 l15 c15 k15,
    f_law_truth := f16, d_law_truth := _, h_law_truth := at_mk a16 l16 c16 k16,
    f_law_int := f17, d_law_int := _, h_law_int := at_mk a17 l17 c17 k17,
    f_law_big := f18, d_law_big := _, h_law_big := at_mk a18 l18 c18 k18,
    f_law_signed := f19, d_law_signed := _, h_law_signed := at_mk a19 l19 c19 k19,
    f_law_is_ratio := f20, d_law_is_ratio := _, h_law_is_ratio := at_mk a20 l20 c20 k20,
    f_law_same_ratio := f21, d_law_same_ratio := _, h_law_same_ratio := at_mk a21 l21 c21 k21,
    f_law_make := f22, d_law_make := _, h_law_make := at_mk a22 l22 c22 k22,
    f_law_over := f23, d_law_over := _, h_law_over := at_mk a23 l23 c23 k23,
    f_law_number_or_odd := f24, d_law_number_or_odd := _, h_law_number_or_odd := at_mk a24 l24 c24 k24,
    f_law_due := f25, d_law_due := _, h_law_due := at_mk a25 l25 c25 k25,
    f_law_pair_right := f26, d_law_pair_right := _, h_law_pair_right := at_mk a26 l26 c26 k26,
    f_law_things := f27, d_law_things := _, h_law_things := at_mk a27 l27 c27 k27,
    f_law := f28, d_law := _, h_law := at_mk a28 l28 c28 k28,
    f_is_whole := f29, d_is_whole := _, h_is_whole := ⟨a29, ⟨⟨_, _, _, _, _, _, _, _, _, _, rfl, l29, c29, .inr ⟨by simp, T29, _, [.none, .none], _, rfl, lT0, rfl, .cons rfl (.cons rfl .nil)⟩, .inl rfl⟩, k29⟩⟩,
    f_make_ratio := f30, d_make_ratio := _, h_make_ratio := ⟨a30, ⟨⟨_, _, _, _, _, _, _, _, _, _, rfl, l30, c30, .inr ⟨by simp, T30, _, [.int 1 tk], _, rfl, lT1, rfl, .cons ⟨_, rfl⟩ .nil⟩, .inl rfl⟩, k30⟩⟩,
    n_len := n_len,
    n_abs := n_abs,
    n_int := n_int,
    n_range := n_range,
    n_bool := n_bool,
    n_tuple := n_tuple,
    n_list := n_list,
    n_str := n_str,
    n_isinstance := n_isinstance,
    gcd := gcd, lcm := lcm, zO := zO, gZ := gZ, vZ := .inr ⟨_, _, _, lZ, rfl, rfl, (by show 2 ≤ sizeLine; decide), .cons ⟨_, rfl⟩ (.cons ⟨_, rfl⟩ .nil)⟩,
    oO := oO, gO := gO, vO := .inr ⟨_, _, _, lO, rfl, rfl, (by show 2 ≤ sizeLine; decide), .cons ⟨_, rfl⟩ (.cons ⟨_, rfl⟩ .nil)⟩,
    C := C, fI := fI, aC := aC,
    low := fun mg' e => ⟨e, ⟨nm, q, N, bs, _, sn, sub, ab, col, dd, m0, m1, m2, m3, m5, xL, rfl⟩, sa, ga, gg, nb, ai, ti, kC, eC, tC, hC, exm_self eC iC tC sC, ⟨_, _, _, _, _, _, _, _, _, _, _, _, _, _, li, ci⟩⟩ }
end K01
set_option Elab.async false
set_option linter.all false
set_option maxRecDepth 100000
open PySem PySem.W PyProof.Rows
set_option maxRecDepth 100000 in
set_option maxHeartbeats 0 in
theorem PySem.Challenge.cw_alreadytold_k01_whole_ratios_holds : PySem.Challenge.rw_alreadytold_k01_whole_ratios.Holds := by
  w_on; o_law; k_head; (case hw => w_witness2)
  k_fill
  refine K01.walk (l := PySem.Challenge.rw_alreadytold_k01_whole_ratios) rfl rfl (fun w h Y => PySem.W.kIn_of Y) ?F
  case F =>
    intro w mg fa h KX G hmg
    refine' K01.fin KX G hmg ?a0 ?l0 ?c0 ?k0 ?a1 ?l1 ?c1 ?k1 ?a2 ?l2 ?c2 ?k2 ?a3 ?l3 ?c3 ?k3 ?a4 ?l4 ?c4 ?k4 ?a5 ?l5 ?c5 ?k5 ?a6 ?l6 ?c6 ?k6 ?a7 ?l7 ?c7 ?k7 ?a8 ?l8 ?c8 ?k8 ?a9 ?l9 ?c9 ?k9 ?a10 ?l10 ?c10 ?k10 ?a11 ?l11 ?c11 ?k11 ?a12 ?l12 ?c12 ?k12 ?a13 ?l13 ?c13 ?k13 ?a14 ?l14 ?c14 ?k14 ?a15 ?l15 ?c15 ?k15 ?a16 ?l16 ?c16 ?k16 ?a17 ?l17 ?c17 ?k17 ?a18 ?l18 ?c18 ?k18 ?a19 ?l19 ?c19 ?k19 ?a20 ?l20 ?c20 ?k20 ?a21 ?l21 ?c21 ?k21 ?a22 ?l22 ?c22 ?k22 ?a23 ?l23 ?c23 ?k23 ?a24 ?l24 ?c24 ?k24 ?a25 ?l25 ?c25 ?k25 ?a26 ?l26 ?c26 ?k26 ?a27 ?l27 ?c27 ?k27 ?a28 ?l28 ?c28 ?k28 ?a29 ?l29 ?c29 ?k29 ?a30 ?l30 ?c30 ?k30 ?lT0 ?lT1 ?n_len ?n_abs ?n_int ?n_range ?n_bool ?n_tuple ?n_list ?n_str ?n_isinstance ?gcd ?lcm ?gZ ?lZ ?gO ?lO ?aC ?xL ?sa ?ga ?gg ?nb ?ai ?ti ?li ?ci ?kC ?eC ?tC ?hC ?iC ?sC
    (case a0 => k_is)
    (case l0 => k_is)
    (case c0 => k_is)
    (case k0 => k_is)
    (case a1 => k_is)
    (case l1 => k_is)
    (case c1 => k_is)
    (case k1 => k_is)
    (case a2 => k_is)
    (case l2 => k_is)
    (case c2 => k_is)
    (case k2 => k_is)
    (case a3 => k_is)
    (case l3 => k_is)
    (case c3 => k_is)
    (case k3 => k_is)
    (case a4 => k_is)
    (case l4 => k_is)
    (case c4 => k_is)
    (case k4 => k_is)
    (case a5 => k_is)
    (case l5 => k_is)
    (case c5 => k_is)
    (case k5 => k_is)
    (case a6 => k_is)
    (case l6 => k_is)
    (case c6 => k_is)
    (case k6 => k_is)
    (case a7 => k_is)
    (case l7 => k_is)
    (case c7 => k_is)
    (case k7 => k_is)
    (case a8 => k_is)
    (case l8 => k_is)
    (case c8 => k_is)
    (case k8 => k_is)
    (case a9 => k_is)
    (case l9 => k_is)
    (case c9 => k_is)
    (case k9 => k_is)
    (case a10 => k_is)
    (case l10 => k_is)
    (case c10 => k_is)
    (case k10 => k_is)
    (case a11 => k_is)
    (case l11 => k_is)
    (case c11 => k_is)
    (case k11 => k_is)
    (case a12 => k_is)
    (case l12 => k_is)
    (case c12 => k_is)
    (case k12 => k_is)
    (case a13 => k_is)
    (case l13 => k_is)
    (case c13 => k_is)
    (case k13 => k_is)
    (case a14 => k_is)
    (case l14 => k_is)
    (case c14 => k_is)
    (case k14 => k_is)
    (case a15 => k_is)
    (case l15 => k_is)
    (case c15 => k_is)
    (case k15 => k_is)
    (case a16 => k_is)
    (case l16 => k_is)
    (case c16 => k_is)
    (case k16 => k_is)
    (case a17 => k_is)
    (case l17 => k_is)
    (case c17 => k_is)
    (case k17 => k_is)
    (case a18 => k_is)
    (case l18 => k_is)
    (case c18 => k_is)
    (case k18 => k_is)
    (case a19 => k_is)
    (case l19 => k_is)
    (case c19 => k_is)
    (case k19 => k_is)
    (case a20 => k_is)
    (case l20 => k_is)
    (case c20 => k_is)
    (case k20 => k_is)
    (case a21 => k_is)
    (case l21 => k_is)
    (case c21 => k_is)
    (case k21 => k_is)
    (case a22 => k_is)
    (case l22 => k_is)
    (case c22 => k_is)
    (case k22 => k_is)
    (case a23 => k_is)
    (case l23 => k_is)
    (case c23 => k_is)
    (case k23 => k_is)
    (case a24 => k_is)
    (case l24 => k_is)
    (case c24 => k_is)
    (case k24 => k_is)
    (case a25 => k_is)
    (case l25 => k_is)
    (case c25 => k_is)
    (case k25 => k_is)
    (case a26 => k_is)
    (case l26 => k_is)
    (case c26 => k_is)
    (case k26 => k_is)
    (case a27 => k_is)
    (case l27 => k_is)
    (case c27 => k_is)
    (case k27 => k_is)
    (case a28 => k_is)
    (case l28 => k_is)
    (case c28 => k_is)
    (case k28 => k_is)
    (case a29 => k_is)
    (case l29 => k_is)
    (case c29 => k_is)
    (case k29 => k_is)
    (case a30 => k_is)
    (case l30 => k_is)
    (case c30 => k_is)
    (case k30 => k_is)
    (case lT0 => k_is)
    (case lT1 => k_is)
    (case n_len => k_is)
    (case n_abs => k_is)
    (case n_int => k_is)
    (case n_range => k_is)
    (case n_bool => k_is)
    (case n_tuple => k_is)
    (case n_list => k_is)
    (case n_str => k_is)
    (case n_isinstance => k_is)
    (case gcd => k_is)
    (case lcm => k_is)
    (case gZ => k_is)
    (case lZ => k_is)
    (case gO => k_is)
    (case lO => k_is)
    (case aC => k_is)
    (case xL => k_is)
    (case sa => k_is)
    (case ga => k_is)
    (case gg => k_is)
    (case nb => k_is)
    (case ai => k_is)
    (case ti => k_is)
    (case li => k_is)
    (case ci => k_is)
    (case kC => k_is)
    (case eC => k_is)
    (case tC => k_is)
    (case hC => k_is)
    (case iC => k_is)
    (case sC => first | rfl | k_is)
