import PyProof.Rows.All
import Wide.All
import OpenK.AllK
import Wide.FinOn
import HandS.ForMost
import HandS.IsInst
import HandS.Wide
import HandS.Codes
import HandS.NoneIn
import KE.KDictPairs
import KE.KDictKeyed
import HandS.DictTup
import HandS.TupLen
import HandS.Conv
import KE.SortCalls
import KE.KDictDisplayH
import PySem.Challenge.RW_keptways_k61_whole_fewest_ties_by_force
import HandS.SetKeys
import HandS.SetFor
import HandS.Walk
import HandS.DictComp
import HandS.Property
import HandS.ClsMeth
import HandS.Star
import HandS.Flow
import HandS.TupAny
import HandS.TupLe
import HandS.Zip
import HandS.FStr
import HandS.MethStar
import HandS.ListItems
import HandS.Lambda
import HandS.EndTab
import KE.SortKeyHeap
import KE.GoesEnumKw
import HandS.TryOnly
import HandS.Text
import HandS.SortKw
import HandS.DictEq
import HandS.WideBits
import KE.KNestM
import KE.KLam
import HandS.Defaults
set_option Elab.async false
set_option linter.all false
set_option maxRecDepth 100000
namespace KP
open PySem PySem.Spec PyProof.Rows L2
def topS (i : Nat) : Stmt := PySem.Challenge.pw_keptways_k61_whole_fewest_ties_by_force.main.body.getD i (.Pass ⟨0, 0, 0, 0⟩)
abbrev sIsInt : Stmt := topS 10
abbrev sIsWord : Stmt := topS 11
abbrev sIsPair : Stmt := topS 12
abbrev sArePlaces : Stmt := topS 29
abbrev sAreTies : Stmt := topS 30
abbrev sNet : Stmt := topS 36
abbrev sDice : Stmt := topS 47
abbrev sRoll : Stmt := topS 48
abbrev sPick : Stmt := topS 49
abbrev sSome : Stmt := topS 50
abbrev sPairL : Stmt := topS 51
abbrev sPairsL : Stmt := topS 52
abbrev sWith : Stmt := topS 53
abbrev sNetL : Stmt := topS 54
abbrev sKnown : Stmt := topS 55
theorem scDice : FnScope ["script", "spot", "cell", "great", "blend"] ["script", "spot"] (defScope sDice) := ⟨rfl, rfl, rfl, by decide +kernel, rfl, by decide +kernel, by decide +kernel⟩
theorem scRoll : FnScope ["dice", "total", "found", "one", "two"] ["dice", "total"] (defScope sRoll) := ⟨rfl, rfl, rfl, by decide +kernel, rfl, by decide +kernel, by decide +kernel⟩
theorem scPick : FnScope ["dice", "items"] ["dice", "items"] (defScope sPick) := ⟨rfl, rfl, rfl, by decide +kernel, rfl, by decide +kernel, by decide +kernel⟩
theorem scSome : FnScope ["dice", "items", "size", "left", "turn"] ["dice", "items", "size"] (defScope sSome) := ⟨rfl, rfl, rfl, by decide +kernel, rfl, by decide +kernel, by decide +kernel⟩
/-! ### heaps -/
theorem same_upd {H : Hp} {p : Addr} {o : HO} (h : H p = none) : Same H (upd H p o) := fun b x e => by
  rw [upd_ne (ne_of_none e h)]
  exact e
/-- the dice at d are three whole numbers -/
def DiceAt (H : Hp) (d : Addr) : Prop := ∃ x y z : Int, H d = some (.lst [.int x, .int y, .int z])
/-- all that was tracked stands, but for the dice at d, which are dice still -/
structure Sd (d : Addr) (H H' : Hp) : Prop where
  keep : ∀ b o, b ≠ d → H b = some o → H' b = some o
  dice : DiceAt H' d
theorem Sd.trans {d : Addr} {H H1 H2 : Hp} (a : Sd d H H1) (b : Sd d H1 H2) : Sd d H H2 := ⟨fun c o hc h => b.keep c o hc (a.keep c o hc h), b.dice⟩
theorem Sd.of_same {d : Addr} {H H1 : Hp} (a : Same H H1) (h : DiceAt H d) : Sd d H H1 := ⟨fun c o _ h => a c o h, by
  obtain ⟨x, y, z, h⟩ := h
  exact ⟨x, y, z, a _ _ h⟩⟩
theorem Sd.then_same {d : Addr} {H H1 H2 : Hp} (a : Sd d H H1) (b : Same H1 H2) : Sd d H H2 := a.trans (.of_same b a.dice)
theorem Sd.refl {d : Addr} {H : Hp} (h : DiceAt H d) : Sd d H H := .of_same (Same.refl H) h
theorem Sd.free {d : Addr} {H H' : Hp} (e : Sd d H H') {l : Addr} (h : H' l = none) : H l = none := by
  cases q : H l with
  | none => rfl
  | some o =>
    by_cases hl : l = d
    · subst hl
      obtain ⟨x, y, z, e⟩ := e.dice
      rw [e] at h
      cases h
    · rw [e.keep l o hl q] at h
      cases h
theorem DiceAt.ne {H : Hp} {d p : Addr} (h : DiceAt H d) (n : H p = none) : d ≠ p := by
  obtain ⟨x, y, z, h⟩ := h
  exact ne_of_none h n
theorem sd_put {d : Addr} {H : Hp} (x y z : Int) : Sd d H (upd H d (.lst [.int x, .int y, .int z])) := ⟨fun b o hb h => by
  rw [upd_ne hb]
  exact h, ⟨x, y, z, upd_same⟩⟩
theorem sd_new {d p : Addr} {H : Hp} {o : HO} (h : DiceAt H d) (n : H p = none) : Sd d H (upd H p o) := .of_same (same_upd n) h
section
variable {X : Cx}
/-! ### rules that the layer has not -/
theorem op_powB : OpR X (binaryOp .Pow) (rI (fun i j => 0 ≤ j ∧ (Builtin.Int.intBits i : Int) * j ≤ 2 ^ 27) fun i j => .int (i ^ j.toNat)) := opI fun _ _ _ _ _ _ _ hc q => pow_int hc.1 hc.2 q
/-- the same rules with the written part named, as a comprehension's block wants them -/
theorem call_len_seqK {K : PySem.W.Frag} (hK : X.K = K) : CallR X (.builtin "len") (fun xs H Q => ∃ p ys, xs = [.ref p] ∧ (SqL K H p ys ∨ SqT K H p ys) ∧ Q (.int ys.length) H) := by
  subst hK
  exact call_len_seq
theorem ix_listK {K : PySem.W.Frag} (hK : X.K = K) : IxR X (rIxL K) := by
  subst hK
  exact ix_list
theorem pe_bmK {K : PySem.W.Frag} {T name id : String} {r : V → List V → Hp → VK → Prop} {o e : Expr} {es : List Expr} {to : TE} {t : TA} {apos cpos : Pos} (hK : X.K = K) (pa : PlainAttrs T) (slot : Slot T name id) (hty : typeOf (.builtin id) = pure (.type "method_descriptor")) (hm : MtR X id r) (ho : PE X o to) (ha : PA X (e :: es) t)
    (hbase : attributeBase o name X.env (eval o X.env) = eval o X.env := by rfl)
    (hfew : ((backTo cpos (starEach (e :: es) X.env)).all (fun x => !x.1) && (backToKw cpos (keywordEach [] X.env)).all (fun x => x.1.isSome)
      && decide ((e :: es).length + ([] : List Keyword).length + (if ([] : List Keyword).isEmpty then 0 else 1) < 30)) = true := by rfl)
    (hline : (apos.endLine == cpos.line) = true := by rfl) (hs : starEach (e :: es) X.env = (false, eval e X.env) :: starEach es X.env := by rfl) (hplain : (backTo cpos (starEach es X.env)).any (·.1) = false := by rfl) :
    PE X (.Call (.Attribute o name apos) (e :: es) [] cpos) (tBM K T r to t) := by
  subst hK
  exact pe_bm pa slot hty hm ho ha hbase hfew hline hs hplain
end
section
variable {P : Program} {w : World} {K : PySem.W.Frag} {mg : Str → Option Value} {base : Heap}
/-! ### dice -/
def spDice (K : PySem.W.Frag) : Sp := fun vs H Q _ => ∃ (a : Addr) (ns : List Int) (k : Int), vs = [.ref a, .int k] ∧ SqL K H a (ns.map V.int) ∧ ns.length ≤ 63 ∧ 0 ≤ k ∧
  ∀ D x y z, H D = none → Q (.ref D) (upd H D (.lst [.int x, .int y, .int z]))
theorem hP : (0 : Int) < 2305843009213693661 := by decide
theorem big_ok : (Builtin.Int.intBits ((10 : Int) ^ (60 : Int).toNat) : Int) * 10 ≤ 2 ^ 27 := by decide +kernel
theorem big_ne : ((10 : Int) ^ (60 : Int).toNat) ^ (10 : Int).toNat ≠ 0 := by decide +kernel
theorem ok_dice {f : Addr} {fd : FuncData} {k : Nat} (F : Fun K "_law_dice" "_law_dice" sDice f fd) (ml : mg "len" = none) (mi : mg "int" = none) (ma : mg "abs" = none) (mm : mg "max" = none) :
    FnOk P w K mg base CX0 (k + 1) f fd ["script", "spot"] (spDice K) := by
  refine F.ok scDice (fun vs H Q E h => ?_) (fun cdv A outer s H vs Q E hr h => ?_)
  · obtain ⟨a, ns, k, rfl, _⟩ := h
    rfl
  · obtain ⟨a, ns, k, rfl, hS, hlen, hk, q⟩ := h
    refine ⟨_, pss_cons (ps_set (i := 2) scDice.nd rfl (.inl rfl) (pe_op op_add (pe_op op_mul pe_int (pv 1)) pe_int))
      (C8.pss_cut (ps_if (pt_cmpR op_lt (pv 1) (pe_callB call_len_seq (by rfl) ml PySem.boot_len (pa_cons (pv 0) pa_nil)) (nomark _))
        (pss_one (ps_set (i := 2) scDice.nd rfl (.inl rfl) (pe_ix ix_list (pv 0) (pv 1) (fun _ _ => rfl)))) pss_nil)
      (pss_cons (ps_set (i := 3) scDice.nd rfl (.inl rfl) (pe_op op_modN (pe_callTy call_int1 (by rfl) mi (by decide +kernel) (pa_cons (pe_callB call_abs (by rfl) ma (by decide +kernel) (pa_cons (pv 2) pa_nil)) pa_nil))
          (pe_op op_powB (pe_op op_pow pe_int pe_int) pe_int)))
      (pss_cons (ps_set (i := 4) scDice.nd rfl (.inl rfl) (pe_op op_add (pe_op op_add (pe_op op_add
          (pe_op op_mul (pe_op op_mod (pe_callTy call_int1 (by rfl) mi (by decide +kernel) (pa_cons (pv 3) pa_nil)) pe_int) pe_int)
          (pe_op op_mul pe_int (pv 1))) (pe_op op_mul pe_int (pe_callTy call_int1 (by rfl) mi (by decide +kernel) (pa_cons (pe_cmpR op_lt (pv 2) pe_int (nomark _)) pa_nil)))) pe_int))
      (pss_one (ps_ret (pe_lst (pa_cons (pe_callB (call_max2 rfl) (by rfl) mm (by decide +kernel) (pa_cons pe_int (pa_cons (pe_op op_sub (pv 3) (pe_op op_pow pe_int pe_int)) pa_nil)))
          (pa_cons (pe_op op_mod (pe_callTy call_int1 (by rfl) mi (by decide +kernel) (pa_cons (pv 4) pa_nil)) pe_int) (pa_cons pe_int pa_nil)))))))))
      , ?_⟩
    refine ⟨.int k, rfl, 67, k, rfl, rfl, .inl (by decide), _, 23, rfl, rfl, ?_⟩
    refine ⟨fun σ' H' => ∃ c : Int, σ' = [some (.ref a), some (.int k), some (.int c), none, none] ∧ H' = H, ?_, ?_⟩
    · refine ⟨.int k, rfl, .ref a, rfl, a, ns.map V.int, rfl, .inl hS, _, _, rfl, rfl, _, rfl, ite2 (fun e => ?_) (fun e => ?_)⟩
      · have hk2 : k < ((ns.map V.int).length : Int) := of_decide_eq_true e
        obtain ⟨j, rfl⟩ : ∃ j : Nat, k = (j : Int) := ⟨k.toNat, by omega⟩
        have hj : j < ns.length := by
          rw [List.length_map] at hk2
          omega
        have hg : (ns.map V.int)[j]? = some (.int ns[j]) := by
          rw [List.getElem?_map, List.getElem?_eq_getElem hj]
          rfl
        exact ⟨.ref a, rfl, .int (j : Int), rfl, a, _, (j : Int), .int ns[j], rfl, rfl, hS, atI_nat hg, ns[j], rfl, rfl⟩
      · exact ⟨_, rfl, rfl⟩
    · rintro σ' H' ⟨c, rfl, rfl⟩
      refine ⟨.int c, rfl, c, rfl, .inl ⟨_, rfl, 10, 60, rfl, rfl, ⟨by decide, by decide, by decide⟩, _, 10, rfl, rfl, ⟨by decide, big_ok⟩, _, _, rfl, rfl, big_ne, ?_⟩⟩
      dsimp only
      generalize Int.fmod _ _ = g
      refine ⟨.int g, rfl, .inl ⟨g, rfl, g, 2305843009213693661, rfl, rfl, hP, _, 1000409, rfl, rfl, .inl ⟨by omega, by omega⟩, ?_⟩⟩
      refine ⟨.int k, rfl, 8081, k, rfl, rfl, .inl (by decide), _, _, rfl, rfl, ?_⟩
      refine ⟨.int c, rfl, _, _, rfl, rfl, .inr ⟨_, rfl, 53, _, rfl, rfl, .inl (by decide), _, _, rfl, rfl, _, 29, rfl, rfl, ?_⟩⟩
      dsimp only
      generalize ((g % 2305843009213693661 * 1000409 + 8081 * k + 53 * _ + 29 : Int)) = b
      refine ⟨.int g, rfl, 10, 18, rfl, rfl, ⟨by decide, by decide, by decide⟩, g, _, rfl, rfl, 0, _, rfl, ?_⟩
      refine ⟨.int b, rfl, .inl ⟨b, rfl, b, _, rfl, rfl, hP, ?_⟩⟩
      exact ⟨by show 3 ≤ sizeLine; decide, fun D hD => q D _ _ _ hD⟩
/-- one roll: a number below total; the dice are dice still, all else is as it was -/
def spRoll : Sp := fun vs H Q _ => ∃ (d : Addr) (n : Int), vs = [.ref d, .int n] ∧ DiceAt H d ∧ 0 < n ∧ n < 1073741824 ∧
  ∀ (r : Int) x y z, 0 ≤ r → r < n → Q (.int r) (upd H d (.lst [.int x, .int y, .int z]))
theorem ok_roll {f : Addr} {fd : FuncData} {k : Nat} (F : Fun K "_law_roll" "_law_roll" sRoll f fd) (mi : mg "int" = none) :
    FnOk P w K mg base CX0 (k + 1) f fd ["dice", "total"] spRoll := by
  refine F.ok scRoll (fun vs H Q E h => ?_) (fun cdv A outer s H vs Q E hr h => ?_)
  · obtain ⟨d, n, rfl, _⟩ := h
    rfl
  · obtain ⟨d, n, rfl, ⟨x, y, z, hd⟩, h0, hn, q⟩ := h
    refine ⟨_, pss_cons (ps_if (pt_cmpR op_gt (pe_ix ix_list (pv 0) pe_int (fun _ _ => rfl)) pe_int (nomark _))
        (pss_cons (ps_set (i := 2) scRoll.nd rfl (.inl rfl) (pe_op op_modN (pe_callTy call_int1 (by rfl) mi (by decide +kernel) (pa_cons (pe_ix ix_list (pv 0) pe_int (fun _ _ => rfl)) pa_nil)) (pv 1)))
        (pss_cons (ps_asg (pe_op op_fdivN (pe_ix ix_list (pv 0) pe_int (fun _ _ => rfl)) (pv 1)) (pg_sub (pv 0) pe_int set_list))
        (pss_one (ps_ret (pv 2))))) pss_nil)
      (pss_cons (ps_asg (pe_op op_add (pe_ix ix_list (pv 0) pe_int (fun _ _ => rfl)) pe_int) (pg_sub (pv 0) pe_int set_list))
      (pss_cons (ps_set (i := 3) scRoll.nd rfl (.inl rfl) (pe_op op_mod (pe_callTy call_int1 (by rfl) mi (by decide +kernel) (pa_cons (pe_op op_add (pe_ix ix_list (pv 0) pe_int (fun _ _ => rfl)) (pe_op op_mul pe_int (pe_ix ix_list (pv 0) pe_int (fun _ _ => rfl)))) pa_nil)) pe_int))
      (pss_cons (ps_set (i := 4) scRoll.nd rfl (.inl rfl) (pe_op op_add (pe_op op_mul (pe_op op_mod (pe_callTy call_int1 (by rfl) mi (by decide +kernel) (pa_cons (pe_op op_mul (pv 3) (pv 3)) pa_nil)) pe_int) (pv 3)) (pe_op op_mul pe_int (pe_ix ix_list (pv 0) pe_int (fun _ _ => rfl)))))
      (pss_cons (ps_set (i := 4) scRoll.nd rfl (.inl rfl) (pe_op op_mod (pe_callTy call_int1 (by rfl) mi (by decide +kernel) (pa_cons (pv 4) pa_nil)) pe_int))
      (pss_one (ps_ret (pe_op op_modN (pe_callTy call_int1 (by rfl) mi (by decide +kernel) (pa_cons (pe_op op_fdiv (pv 4) pe_int) pa_nil)) (pv 1)))))))), ?_⟩
    have hL : SqL K H d [.int x, .int y, .int z] := .inl (.inl hd)
    have hne : n ≠ 0 := by omega
    refine ⟨.ref d, rfl, d, _, 0, .int x, rfl, rfl, hL, rfl, x, 0, rfl, rfl, _, rfl, ite2 (fun e => ?_) (fun e => ?_)⟩
    · have hb : n ≠ 0 ∧ n.natAbs < 1073741824 := ⟨hne, by omega⟩
      refine ⟨.ref d, rfl, d, _, 0, .int x, rfl, rfl, hL, rfl, .inl ⟨x, rfl, .int n, rfl, x, n, rfl, rfl, hne, ?_⟩⟩
      refine ⟨.ref d, rfl, d, _, 0, .int x, rfl, rfl, hL, rfl, .int n, rfl, x, n, rfl, rfl, hb, ?_⟩
      refine ⟨.ref d, rfl, d, _, 0, 0, rfl, rfl, hd, rfl, _, rfl, ?_⟩
      exact q _ _ y z (Int.fmod_nonneg_of_pos _ h0) (Int.fmod_lt_of_pos _ h0)
    · refine ⟨.ref d, rfl, d, _, 2, .int z, rfl, rfl, hL, rfl, z, 1, rfl, rfl, ?_⟩
      refine ⟨.ref d, rfl, d, _, 2, 2, rfl, rfl, hd, rfl, ?_⟩
      have hL2 : SqL K (upd H d (.lst [.int x, .int y, .int (z + 1)])) d [.int x, .int y, .int (z + 1)] := .inl (.inl upd_same)
      refine ⟨.ref d, rfl, d, _, 1, .int y, rfl, rfl, hL2, rfl, .ref d, rfl, d, _, 2, .int (z + 1), rfl, rfl, hL2, rfl, 998244319, _, rfl, rfl, .inl (by decide), y, _, rfl, rfl, .inl ⟨_, rfl, _, _, rfl, rfl, (by show (0 : Int) < 2305843009213693951; decide), ?_⟩⟩
      dsimp only
      have a0 : 0 ≤ (y + 998244319 * (z + 1)) % 2305843009213693951 := Int.emod_nonneg _ (by decide)
      have a1 : (y + 998244319 * (z + 1)) % 2305843009213693951 < 2305843009213693951 := Int.emod_lt_of_pos _ (by decide)
      generalize (y + 998244319 * (z + 1)) % 2305843009213693951 = o at a0 a1 ⊢
      refine ⟨.int o, rfl, .int o, rfl, o, o, rfl, rfl, .inl ⟨by omega, by omega⟩, .inl ⟨_, rfl, _, _, rfl, rfl, (by show (0 : Int) < 2305843009213693907; decide), ?_⟩⟩
      refine ⟨.int o, rfl, _, o, rfl, rfl, .inl ⟨by omega, by omega⟩, .ref d, rfl, d, _, 2, .int (z + 1), rfl, rfl, hL2, rfl, 9421, _, rfl, rfl, .inl (by decide), _, _, rfl, rfl, ?_⟩
      dsimp only
      generalize (o * o % 2305843009213693907 * o + 9421 * (z + 1)) = t
      refine ⟨.int t, rfl, .inl ⟨t, rfl, t, _, rfl, rfl, hP, ?_⟩⟩
      dsimp only
      generalize t % 2305843009213693661 = t2
      refine ⟨.int t2, rfl, t2, 8192, rfl, rfl, ⟨by decide, by decide⟩, .inl ⟨_, rfl, .int n, rfl, _, n, rfl, rfl, hne, ?_⟩⟩
      exact q _ x y (z + 1) (Int.fmod_nonneg_of_pos _ h0) (Int.fmod_lt_of_pos _ h0)
/-- one of the items -/
def spPick : Sp := fun vs H Q _ => ∃ (d p : Addr) (xs : List V), vs = [.ref d, .ref p] ∧ DiceAt H d ∧ H p = some (.lst xs) ∧ p ≠ d ∧ 0 < xs.length ∧ xs.length < 1073741824 ∧
  ∀ v H', v ∈ xs → Sd d H H' → Q v H'
theorem ok_pick {f g : Addr} {fd gd : FuncData} {k : Nat} (F : Fun K "_law_pick" "_law_pick" sPick f fd) (G : FnOk P w K mg base CX0 k g gd ["dice", "total"] spRoll) (gk : PySem.W.keepIn K (.ref g) = true) (gb : Binds K gd ["dice", "total"] []) (mg1 : mg "_law_roll" = some (.ref g)) (ml : mg "len" = none) :
    FnOk P w K mg base CX0 (k + 1) f fd ["dice", "items"] spPick := by
  refine F.ok scPick (fun vs H Q E h => ?_) (fun cdv A outer s H vs Q E hr h => ?_)
  · obtain ⟨d, p, xs, rfl, _⟩ := h
    rfl
  · obtain ⟨d, p, xs, rfl, hd, hp, hne, h0, h1, q⟩ := h
    refine ⟨_, pss_one (ps_ret (pe_ix ix_list (pv 1) (pe_call G hr (by rfl) mg1 gk gb .nil pass0 (pa_cons (pv 0) (pa_cons (pe_callB call_len_seq (by rfl) ml PySem.boot_len (pa_cons (pv 1) pa_nil)) pa_nil))) (fun _ _ => rfl))), ?_⟩
    refine ⟨.ref p, rfl, .ref d, rfl, .ref p, rfl, p, xs, rfl, .inl (.inl (.inl hp)), d, _, rfl, hd, by omega, by omega, fun r x y z r0 r1 => ?_⟩
    obtain ⟨j, rfl⟩ : ∃ j : Nat, r = (j : Int) := ⟨r.toNat, by omega⟩
    have hj : j < xs.length := by omega
    refine ⟨p, xs, (j : Int), xs[j], rfl, rfl, .inl (.inl ?_), atI_nat (List.getElem?_eq_getElem hj), q _ _ (List.getElem_mem hj) (sd_put x y z)⟩
    rw [upd_ne hne]
    exact hp
end
section
variable {P : Program} {w : World} {K : PySem.W.Frag} {mg : Str → Option Value} {base : Heap}
/-- so many of the items, drawn one behind the other: what is drawn and what is left are the items in another order -/
def spSome (K : PySem.W.Frag) : Sp := fun vs H Q _ => ∃ (d p : Addr) (m : Int) (xs : List V), vs = [.ref d, .ref p, .int m] ∧ DiceAt H d ∧ SqL K H p xs ∧ 0 ≤ m ∧ m < 1000000 ∧ xs.length < 1000000 ∧
  ∀ D ys rest H', (ys ++ rest).Perm xs → ys.length = min m.toNat xs.length → H D = none → H' D = some (.lst ys) → Sd d H H' → Q (.ref D) H'
theorem erase_perm {α : Type} : ∀ (xs : List α) (j : Nat) (h : j < xs.length), (xs[j] :: xs.eraseIdx j).Perm xs
  | [], j, h => by simp at h
  | x :: r, 0, h => List.Perm.refl _
  | x :: r, j + 1, h => by
    have ih := erase_perm r j (by simpa using h)
    show (r[j]'(by simpa using h) :: x :: r.eraseIdx j).Perm (x :: r)
    exact (List.Perm.swap _ _ _).trans (ih.cons x)
theorem ok_some {f g : Addr} {fd gd : FuncData} {k : Nat} (F : Fun K "_law_some" "_law_some" sSome f fd) (G : FnOk P w K mg base CX0 k g gd ["dice", "total"] spRoll) (gk : PySem.W.keepIn K (.ref g) = true) (gb : Binds K gd ["dice", "total"] []) (mg1 : mg "_law_roll" = some (.ref g)) (ml : mg "len" = none) (mL : mg "list" = none) (mR : mg "range" = none) (mM : mg "min" = none) :
    FnOk P w K mg base CX0 (k + 1) f fd ["dice", "items", "size"] (spSome K) := by
  refine F.ok scSome (fun vs H Q E h => ?_) (fun cdv A outer s H vs Q E hr h => ?_)
  · obtain ⟨d, p, m, xs, rfl, _⟩ := h
    rfl
  · obtain ⟨d, p, m, xs, rfl, hd, hp, m0, m1, hx, q⟩ := h
    refine ⟨_, pss_cons (ps_set (i := 3) scSome.nd rfl (.inr rfl) (pe_callTy call_list_of (by rfl) mL (by decide +kernel) (pa_cons (pv 1) pa_nil)))
      (pss_one (ps_ret (pe_lc (own := [("turn", 4)]) (g := gName 4) (tt := tYes) rfl scSome.nd (pi_range1 (by rfl) mR (pa_cons (pe_callB (call_min2 rfl) (by rfl) mM (by decide +kernel) (pa_cons (pv 2) (pa_cons (pe_callB call_len_seq (by rfl) ml PySem.boot_len (pa_cons (pv 3) pa_nil)) pa_nil))) pa_nil))
        (blkOk_by (N := ["dice", "items", "size", "left", "turn"]) (sc := defScope sSome) (by decide +kernel)) (fun _ _ _ _ _ => pg_name (i := 4) scSome.nd rfl (Or.inl rfl)) (fun _ _ _ _ _ => pts_nil)
        (fun _ _ _ _ _ => pe_bmK (K := K) rfl PySem.F.plainAttrs_list PySem.F.slot_list_pop PySem.F.type_list_pop mt_popAt (pv 3)
          (pa_cons (pe_call G hr (by rfl) mg1 gk gb .nil pass0 (pa_cons (pv 0) (pa_cons (pe_callB (call_len_seqK (K := K) rfl) (by rfl) ml PySem.boot_len (pa_cons (pv 3) pa_nil)) pa_nil))) pa_nil))))), ?_⟩
    refine ⟨.ref p, rfl, p, xs, rfl, .inl hp, fun l nl => ?_⟩
    have hl : (upd H l (.lst xs)) l = some (.lst xs) := upd_same
    have dl : d ≠ l := hd.ne nl
    refine ⟨.int m, rfl, .ref l, rfl, l, xs, rfl, .inl (.inl (.inl hl)), m, _, rfl, ?_⟩
    obtain ⟨c, hc, c0, c1⟩ : ∃ c : Nat, (if ((xs.length : Int) < m) then (xs.length : Int) else m) = (c : Int) ∧ c = min m.toNat xs.length ∧ c ≤ 1000000 := by
      by_cases hh : (xs.length : Int) < m
      · rw [if_pos hh]
        exact ⟨xs.length, rfl, by omega, by omega⟩
      · rw [if_neg hh]
        exact ⟨m.toNat, by omega, by omega, by omega⟩
    refine ⟨(c : Int), congrArg (fun z => [V.int z]) hc, by omega, by omega, fun D nD => ?_⟩
    have lD : l ≠ D := ne_of_none hl nD
    have nD0 : H D = none := (same_upd nl).free nD
    have dD : d ≠ D := hd.ne nD0
    refine lc_range (lo := 0) (n := (c : Int).toNat) (fun i H' => ∃ ys rest, H' D = some (.lst ys) ∧ H' l = some (.lst rest) ∧ (ys ++ rest).Perm xs ∧ ys.length = i ∧ Sd d H H')
      ⟨[], xs, upd_same, by rw [upd_ne lD]; exact hl, List.Perm.refl _, rfl, (sd_new hd nl).then_same (same_upd nD)⟩ (fun i H' hi hP => ?_) (fun H' hP => ?_)
    · obtain ⟨ys, rest, eD, el, pm, hy, sd⟩ := hP
      have hi : i < c := hi
      have hlen : ys.length + rest.length = xs.length := by
        rw [← List.length_append]
        exact pm.length_eq
      have hr0 : 0 < rest.length := by omega
      refine ⟨rfl, ?_⟩
      refine ⟨.ref l, rfl, .inl ⟨rfl, _, .inl (.inl el)⟩, .ref d, rfl, .ref l, rfl, l, rest, rfl, .inl (.inl (.inl el)), d, _, rfl, sd.dice, by omega, by omega, fun r x y z r0 r1 => ?_⟩
      obtain ⟨j, rfl⟩ : ∃ j : Nat, r = (j : Int) := ⟨r.toNat, by omega⟩
      have hj : j < rest.length := by omega
      have el2 : (upd H' d (.lst [.int x, .int y, .int z])) l = some (.lst rest) := by
        rw [upd_ne dl.symm]
        exact el
      have sq : seqIndex? (j : Int) rest.length = some j := (ixN_seq (by
        unfold ixN
        rw [if_pos (by omega), if_pos (by omega)]
        rfl)).1
      refine ⟨l, rest, (j : Int), j, rest[j], rfl, rfl, el2, by omega, by omega, sq, List.getElem?_eq_getElem hj, ?_⟩
      refine ⟨ys, ?_, by have e : sizeLine = 16777216 := by decide
                         omega, ys ++ [rest[j]], rest.eraseIdx j, upd_same, ?_, ?_, ?_, ?_⟩
      · rw [upd_ne lD.symm, upd_ne dD.symm]
        exact eD
      · rw [upd_ne lD, upd_same]
      · rw [List.append_assoc]
        exact ((erase_perm rest j hj).append_left ys).trans pm
      · rw [List.length_append, hy]
        rfl
      · refine ⟨fun b o hb e => ?_, x, y, z, ?_⟩
        · rw [upd_ne (ne_of_none e nD0), upd_ne (ne_of_none e nl), upd_ne hb]
          exact sd.keep b o hb e
        · rw [upd_ne dD, upd_ne dl, upd_same]
    · obtain ⟨ys, rest, eD, el, pm, hy, sd⟩ := hP
      exact q D ys rest H' pm (by rw [hy]; exact c0) nD0 eD sd
end
/-! ### words -/
theorem lc_str {z : Str} {g : TG} {tt : TT} {te : TE} {vs : List Nat} {σ : L2.St} {H1 : Hp} {D : Addr} {Qd : Hp → Prop} (Pv : Nat → Hp → Prop) (h0 : Pv 0 (upd H1 D (.lst [])))
    (hs : ∀ i c H, z.cps[i]? = some c → Pv i H → g (.str ⟨#[c]⟩) (wipe σ vs) H fun σ2 H2 => wipe σ2 vs = wipe σ vs ∧ tt σ2 H2 fun b H3 =>
      if b = true then te σ2 H3 fun y H4 => ∃ acc, H4 D = some (.lst acc) ∧ acc.length < sizeLine ∧ Pv (i + 1) (upd H4 D (.lst (acc ++ [y]))) else Pv (i + 1) H3) (hd : ∀ H, Pv z.cps.size H → Qd H) :
    ∃ W : Nat → Nat → Hp → Prop, (∃ m, W 0 m (upd H1 D (.lst []))) ∧ ∀ i m H, W i m H →
      ((Its z).stop i H ∧ Qd H) ∨ ((Its z).go i H ∧ ∃ Nx : Hp → Prop, (∀ H', Nx H' → ∃ m', m' < m ∧ W (i + 1) m' H') ∧ ∀ x H', (Its z).yld i H x H' → g x (wipe σ vs) H' fun σ2 H2 => wipe σ2 vs = wipe σ vs ∧ tt σ2 H2 fun b H3 =>
        if b = true then te σ2 H3 fun y H4 => ∃ acc, H4 D = some (.lst acc) ∧ acc.length < sizeLine ∧ Nx (upd H4 D (.lst (acc ++ [y]))) else Nx H3) := by
  refine ⟨fun i m H => m = z.cps.size - i ∧ i ≤ z.cps.size ∧ Pv i H, ⟨z.cps.size, by simp, Nat.zero_le _, h0⟩, ?_⟩
  rintro i m H ⟨rfl, hi, p⟩
  by_cases hlt : i < z.cps.size
  · refine .inr ⟨hlt, Pv (i + 1), fun H' p' => ⟨z.cps.size - (i + 1), by omega, rfl, hlt, p'⟩, fun x H' y => ?_⟩
    obtain ⟨e, c, hc, y⟩ := y
    subst e y
    exact hs i c _ hc p
  · have e : i = z.cps.size := by omega
    subst e
    exact .inl ⟨Nat.le_refl _, hd H p⟩
def letters : Str := "abcdefghijklmnopqrstuvwxyz"
def isLet (c : Nat) : Bool := decide (c ∈ letters.cps.toList)
def isStr : V → Bool
  | .str _ => true
  | _ => false
/-- one to eight small letters -/
def wordS (z : Str) : Bool := (decide (1 ≤ z.length) && decide (z.length ≤ 8)) && z.cps.toList.all isLet
def wordB : V → Bool
  | .str z => wordS z
  | _ => false
/-- a value of which it is known whether it is a text; a text is not too long, its signs are plain -/
structure Tv (K : PySem.W.Frag) (H : Hp) (v : V) : Prop where
  ty : ∃ t, TyX K H v t ∧ PySem.W.kitOne K t (.type "str") = some (isStr v)
  len : ∀ z, v = .str z → z.length ≤ 1000 ∧ ∀ c ∈ z.cps.toList, c < 128
theorem take_map {α β : Type} (f : α → β) (xs : List α) (i : Nat) (x : α) (h : xs[i]? = some x) : (xs.take i).map f ++ [f x] = (xs.take (i + 1)).map f := by
  rw [List.take_add_one, h, List.map_append]
  rfl
theorem take_filter_t {α : Type} (p : α → Bool) (xs : List α) (i : Nat) (x : α) (h : xs[i]? = some x) (hp : p x = true) : (xs.take i).filter p ++ [x] = (xs.take (i + 1)).filter p := by
  rw [List.take_add_one, h, List.filter_append]
  simp [hp]
theorem take_filter_f {α : Type} (p : α → Bool) (xs : List α) (i : Nat) (x : α) (h : xs[i]? = some x) (hp : p x = false) : (xs.take i).filter p = (xs.take (i + 1)).filter p := by
  rw [List.take_add_one, h, List.filter_append]
  simp [hp]
def spWord (K : PySem.W.Frag) : Sp := fun vs H Q _ => ∃ v, vs = [v] ∧ Tv K H v ∧ ∀ H', Same H H' → Q (.bl (wordB v)) H'
theorem not_str {v : V} (h : isStr v = false) : wordB v = false := by
  cases v <;> first | rfl | cases h
theorem is_str {v : V} (h : isStr v = true) : ∃ z, v = .str z := by
  cases v <;> first | exact ⟨_, rfl⟩ | cases h
section
variable {P : Program} {w : World} {K : PySem.W.Frag} {mg : Str → Option Value} {base : Heap}
theorem scWord : FnScope ["value", "sign"] ["value"] (defScope sIsWord) := ⟨rfl, rfl, rfl, by decide +kernel, rfl, by decide +kernel, by decide +kernel⟩
theorem ok_word {f : Addr} {fd : FuncData} {k : Nat} {t1 t2 : Tok} (F : Fun K "is_word" "is_word" sIsWord f fd) (ml : mg "len" = none) (mi : mg "isinstance" = none) (ms : mg "str" = none) (mA : mg "all" = none)
    (mM : mg "MAX_LETTERS" = some (.int 8 t1)) (mL : mg "_LETTERS" = some (.str letters t2)) :
    FnOk P w K mg base CX0 (k + 1) f fd ["value"] (spWord K) := by
  refine F.ok scWord (fun vs H Q E h => ?_) (fun cdv A outer s H vs Q E hr h => ?_)
  · obtain ⟨v, rfl, _⟩ := h
    rfl
  · obtain ⟨v, rfl, ⟨⟨t, ty, hk⟩, hz⟩, q⟩ := h
    refine ⟨_, pss_one (ps_ret (pe_and (pe_callB call_isi (by rfl) mi (by decide +kernel) (pa_cons (pv 0) (pa_cons (pe_bltn (v := .ty "str") (by rfl) ms (by decide +kernel) rfl) pa_nil)))
      (pe_and (pe_chain op_le op_le pe_int (pe_callB call_len_str (by rfl) ml PySem.boot_len (pa_cons (pv 0) pa_nil)) (pe_glob (v := .int 8) rfl mM ⟨_, rfl⟩))
      (pe_one (pe_callB (cr_all rfl) (by rfl) mA (by decide +kernel) (pa_cons (pe_lc (own := [("sign", 1)]) (g := gName 1) (tt := tYes) rfl scWord.nd (pi_str (pv 0))
        (blkOk_by (N := ["value", "sign"]) (sc := defScope sIsWord) (by decide +kernel)) (fun _ _ _ _ _ => pg_name (i := 1) scWord.nd rfl (Or.inl rfl)) (fun _ _ _ _ _ => pts_nil)
        (fun _ _ _ _ _ => pe_cmpR op_in_sign (pv 1) (pe_glob (v := .str letters) rfl mL ⟨_, rfl⟩) rfl)) pa_nil)))))), ?_⟩
    refine ⟨v, rfl, v, .ty "str", t, .type "str", isStr v, rfl, .ty "str", ty, hk, isStr v, rfl, ite2 (fun e => ?_) (fun e => ?_)⟩
    · obtain ⟨z, rfl⟩ := is_str e
      obtain ⟨hz1, hz2⟩ := hz z rfl
      have hs : z.length ≤ sizeLine := Nat.le_of_lt (small1000 hz1)
      refine ⟨.str z, rfl, z, rfl, hs, 1, _, rfl, rfl, _, rfl, ite2 (fun e1 => ?_) (fun e1 => ?_)⟩
      · refine ⟨_, 8, rfl, rfl, _, rfl, ite2 (fun e2 => ?_) (fun e2 => ?_)⟩
        · refine ⟨.str z, rfl, z, rfl, fun D nD => lc_str (fun i H' => H' D = some (.lst ((z.cps.toList.take i).map fun c => V.bl (isLet c))) ∧ Same H H') ⟨upd_same, same_upd nD⟩ (fun i c H' hc hP => ?_) (fun H' hP => ?_)⟩
          · obtain ⟨eD, sm⟩ := hP
            refine ⟨rfl, .str ⟨#[c]⟩, rfl, c, letters, rfl, rfl, _, eD, ?_, ?_, ?_⟩
            · rw [List.length_map, List.length_take]
              exact Nat.lt_of_le_of_lt (Nat.min_le_right _ _) (small1000 hz1)
            · rw [upd_same, ← take_map (fun c => V.bl (isLet c)) _ i c (by rw [Array.getElem?_toList]; exact hc)]
              rfl
            · intro b o hb
              rw [upd_ne (ne_of_none hb nD)]
              exact sm b o hb
          · obtain ⟨eD, sm⟩ := hP
            have ea : z.cps.toList.take z.cps.size = z.cps.toList := List.take_of_length_le (Nat.le_of_eq (Array.length_toList))
            rw [ea] at eD
            refine ⟨D, z.cps.toList.map isLet, rfl, .inl (.inl ?_), ?_⟩
            · rw [List.map_map]
              exact eD
            · have ew : (z.cps.toList.map isLet).all id = wordB (.str z) := by
                have h1 : (1 : Int) ≤ z.length := of_decide_eq_true e1
                have h2 : (z.length : Int) ≤ 8 := of_decide_eq_true e2
                show _ = wordS z
                unfold wordS
                rw [decide_eq_true (show 1 ≤ z.length by omega), decide_eq_true (show z.length ≤ 8 by omega), List.all_map]
                rfl
              rw [ew]
              exact q H' sm
        · have h2 : ¬ (z.length : Int) ≤ 8 := fun h => e2 (decide_eq_true h)
          have ew : wordB (.str z) = false := by
            show wordS z = false
            unfold wordS
            rw [decide_eq_false (show ¬ z.length ≤ 8 by omega), Bool.and_false, Bool.false_and]
          rw [ew] at q
          exact q H (Same.refl H)
      · have h1 : ¬ (1 : Int) ≤ z.length := fun h => e1 (decide_eq_true h)
        have ew : wordB (.str z) = false := by
          show wordS z = false
          unfold wordS
          rw [decide_eq_false (show ¬ 1 ≤ z.length by omega), Bool.false_and, Bool.false_and]
        rw [ew] at q
        exact ⟨false, rfl, iteF (q H (Same.refl H))⟩
    · have ev := not_str (Bool.eq_false_iff.mpr e)
      rw [ev] at q
      exact q H (Same.refl H)
end
/-! ### what is drawn -/
/-- a drawn value -/
def okStr (z : Str) : Prop := z.length ≤ 1000 ∧ ∀ c ∈ z.cps.toList, c < 128
instance okStr_dec (z : Str) : Decidable (okStr z) := inferInstanceAs (Decidable (z.length ≤ 1000 ∧ ∀ c ∈ z.cps.toList, c < 128))
inductive Dv (H : Hp) : V → Prop where
  | non : Dv H .non
  | bl (b : Bool) : Dv H (.bl b)
  | int (i : Int) : Dv H (.int i)
  | str {z : Str} (h : okStr z) : Dv H (.str z)
  | lst {a : Addr} {xs : List V} (e : H a = some (.lst xs)) : Dv H (.ref a)
  | tup {a : Addr} {xs : List V} (e : H a = some (.tup xs)) : Dv H (.ref a)
  | dK {a : Addr} {kvs : List (Key × V)} (e : H a = some (.dK kvs)) : Dv H (.ref a)
theorem Dv.keep {d : Addr} {H H' : Hp} {v : V} (s : Sd d H H') (h : Dv H v) : Dv H' v := by
  have at_d : Dv H' (.ref d) := by
    obtain ⟨x, y, z, e⟩ := s.dice
    exact .lst e
  cases h with
  | non => exact .non
  | bl b => exact .bl b
  | int i => exact .int i
  | str h => exact .str h
  | @lst a xs e =>
    by_cases ha : a = d
    · rw [ha]; exact at_d
    · exact .lst (s.keep _ _ ha e)
  | @tup a xs e =>
    by_cases ha : a = d
    · rw [ha]; exact at_d
    · exact .tup (s.keep _ _ ha e)
  | @dK a xs e =>
    by_cases ha : a = d
    · rw [ha]; exact at_d
    · exact .dK (s.keep _ _ ha e)
theorem Dv.same {H H' : Hp} {v : V} (s : Same H H') (h : Dv H v) : Dv H' v := by
  cases h with
  | non => exact .non
  | bl b => exact .bl b
  | int i => exact .int i
  | str h => exact .str h
  | lst e => exact .lst (s _ _ e)
  | tup e => exact .tup (s _ _ e)
  | dK e => exact .dK (s _ _ e)
theorem kb_bool : kitB "bool" "str" = some false := by decide +kernel
theorem kb_int : kitB "int" "str" = some false := by decide +kernel
theorem kb_str : kitB "str" "str" = some true := by decide +kernel
theorem kb_list : kitB "list" "str" = some false := by decide +kernel
theorem kb_tuple : kitB "tuple" "str" = some false := by decide +kernel
theorem kb_dict : kitB "dict" "str" = some false := by decide +kernel
theorem kb_none : kitB "NoneType" "str" = some false := by decide +kernel
theorem Dv.tv {K : PySem.W.Frag} {H : Hp} {v : V} (h : Dv H v) : Tv K H v := by
  cases h with
  | non => exact ⟨⟨_, .base .non, kit_ty kb_none⟩, fun z e => nomatch e⟩
  | bl b => exact ⟨⟨_, .base (.bl b), kit_ty kb_bool⟩, fun z e => nomatch e⟩
  | int i => exact ⟨⟨_, .base (.int i), kit_ty kb_int⟩, fun z e => nomatch e⟩
  | str h => exact ⟨⟨_, .base (.str _), kit_ty kb_str⟩, fun z e => by cases e; exact h⟩
  | lst e => exact ⟨⟨_, .base (.lst e), kit_ty kb_list⟩, fun z e => nomatch e⟩
  | tup e => exact ⟨⟨_, .base (.tup e), kit_ty kb_tuple⟩, fun z e => nomatch e⟩
  | dK e => exact ⟨⟨_, .base (.dK e), kit_ty kb_dict⟩, fun z e => nomatch e⟩
/-! ### defs that show data: what they promise where nothing is being shown around them -/
/-! ### a law's end over such a promise -/
/-! ### dicts whose keys are pairs of texts -/
def mergeT (kvs more : List (List Key × V)) : List (List Key × V) := more.foldl (fun acc kv => putK acc kv.1 kv.2) kvs
theorem putK_new {kvs : List (List Key × V)} {k : List Key} {v : V} (h : k ∉ kvs.map (·.1)) : putK kvs k v = kvs ++ [(k, v)] := by
  unfold putK
  rw [if_neg]
  intro e
  obtain ⟨p, hp, e⟩ := List.any_eq_true.mp e
  exact h (List.mem_map.mpr ⟨p, hp, of_decide_eq_true e⟩)
theorem mergeT_app : ∀ (more kvs : List (List Key × V)), ((kvs ++ more).map (·.1)).Nodup → mergeT kvs more = kvs ++ more
  | [], kvs, _ => by simp [mergeT]
  | p :: r, kvs, h => by
    have hn : p.1 ∉ kvs.map (·.1) := fun e => by
      rw [List.map_append, List.nodup_append] at h
      exact h.2.2 _ e _ (by simp) rfl
    show mergeT (putK kvs p.1 p.2) r = kvs ++ p :: r
    rw [putK_new hn, mergeT_app r (kvs ++ [(p.1, p.2)]) (by rw [List.append_assoc]; exact h), List.append_assoc]
    rfl
theorem mergeT_nil {kvs : List (List Key × V)} (h : (kvs.map (·.1)).Nodup) : mergeT [] kvs = kvs := mergeT_app kvs [] h
theorem mergeT_len : ∀ (more kvs : List (List Key × V)), (mergeT kvs more).length ≤ kvs.length + more.length
  | [], kvs => by simp [mergeT]
  | p :: r, kvs => by
    refine Nat.le_trans (mergeT_len r (putK kvs p.1 p.2)) ?_
    have : (putK kvs p.1 p.2).length ≤ kvs.length + 1 := by
      unfold putK
      split <;> simp
    show _ ≤ kvs.length + (r.length + 1)
    omega
theorem KT.all {H : Hp} {kvs ms : List (List Key × V)} {xs ps : List (List Key × Addr × Value)} (r : KT H kvs xs) (q : KT H ms ps) : KT H (mergeT kvs ms) (storedAllH xs ps) := by
  induction q generalizing kvs xs with
  | nil => exact r
  | @cons m p ms ps hm t ih =>
    obtain ⟨h1, h2, h3⟩ := hm
    obtain ⟨p1, p2, p3⟩ := p
    cases h1
    exact ih (KT.put r m.1 h2 h3)
/-- a list of pairs (key, value), each a tuple whose first item is a tuple of texts -/
def PairsT (H : Hp) (ps : List Addr) (kvs : List (List Key × V)) : Prop := Paired (fun p kv => ∃ b, H p = some (.tup [.ref b, kv.2]) ∧ H b = some (.tup (kv.1.map kV))) ps kvs
section
variable {X : Cx}
theorem pairsT_of {pins : List (Addr × Obj)} {σ : L2.St} {H : Hp} {s : Shared} (I : Inv X pins σ H s) : ∀ {ps : List Addr} {kvs : List (List Key × V)}, PairsT H ps kvs →
    ∃ prs : List (List Key × Addr × Value), KT H kvs prs ∧ prs.length = ps.length ∧ ∀ (j : Nat) (q : List Key × Addr × Value), prs[j]? = some q → ∃ b, ps[j]? = some b ∧ IsTup s.heap b #[.ref q.2.1, q.2.2]
  | _, _, .nil => ⟨[], .nil, rfl, fun j q e => by simp at e⟩
  | _, _, .cons (a := p) (b := kv) h t => by
    obtain ⟨prs, r, hl, hp⟩ := pairsT_of I t
    obtain ⟨b, e1, e2⟩ := h
    obtain ⟨its, rv, ht, _⟩ := I.tuple (.inl (.inl e1))
    obtain ⟨u, y, ei, ru, ry⟩ := vals2 rv
    subst ei
    cases (show u = Value.ref b from ru)
    refine ⟨(kv.1, b, y) :: prs, .cons ⟨rfl, e2, ry⟩ r, by rw [List.length_cons, List.length_cons, hl], fun j q e => ?_⟩
    cases j with
    | zero =>
      cases (show (kv.1, b, y) = q from Option.some.inj e)
      exact ⟨p, rfl, ht⟩
    | succ j =>
      obtain ⟨b', e1, e2⟩ := hp j q (by simpa using e)
      exact ⟨b', by simpa using e1, e2⟩
theorem kt_keys {pins : List (Addr × Obj)} {σ : L2.St} {H : Hp} {s : Shared} (I : Inv X pins σ H s) {kvs : List (List Key × V)} {xs : List (List Key × Addr × Value)} (r : KT H kvs xs) :
    ∀ x ∈ xs, (tupleKind (mixKind X.prog X.w)).is s.heap x.1 x.2.1 := by
  induction r with
  | nil => intro x hx; exact nomatch hx
  | @cons p q ps qs h t ih =>
    intro x hx
    rcases List.mem_cons.mp hx with e | hx
    · subst e
      exact key_of I.hok (by rw [← h.1]; exact h.2.1)
    · exact ih x hx
/-- dict(ps), ps a list of pairs whose keys are tuples of texts -/
theorem call_dictT (hcalm : X.calm = true) (hu : X.A.units + 3 < cLine) : CallR X (.type "dict") (fun xs H Q => ∃ (a : Addr) (ps : List Addr) (kvs : List (List Key × V)), xs = [.ref a] ∧ H a = some (.lst (ps.map V.ref)) ∧ PairsT H ps kvs ∧
    ∀ p, H p = none → Q (.ref p) (upd H p (.dT (mergeT [] kvs)))) := by
  intro pins s σ H xs us Q I r h
  obtain ⟨a, ps, kvs, rfl, ha, hp, q⟩ := h
  obtain ⟨u, rfl, rx⟩ := vals1 r
  cases (show u = Value.ref a from rx)
  obtain ⟨its, rv, pl, hz⟩ := I.list (.inl (.inl ha))
  have ei := refs_at rv
  subst ei
  rw [List.length_map] at hz
  obtain ⟨prs, rel, hl, hpr⟩ := pairsT_of I hp
  have hkeys := kt_keys I rel
  refine call_dict_pairsH (knd := tupleKind (mixKind X.prog X.w)) (ps := prs) (PairArg.list a (ps.map Value.ref).toArray (fun j => ps.getD j 0) (prs.map fun q => (Value.ref q.2.1, q.2.2))) (I.ok.hd hcalm) (by show X.A.units + 1 + 1 < cLine; omega) ⟨pl, ?_, ?_⟩ ⟨by rw [List.length_map], ?_⟩ ?_ (by rw [List.length_map, hl]; exact hz) (fun h' tk hd' k => ?_)
  · simp [hl]
  · intro j k v e
    rw [List.getElem?_map] at e
    cases hq : prs[j]? with
    | none => rw [hq] at e; cases e
    | some x =>
      rw [hq] at e
      cases e
      obtain ⟨b, e1, e2⟩ := hpr j x hq
      have e3 : ps.getD j 0 = b := by simp [List.getD, e1]
      refine ⟨?_, .inl ?_⟩
      · show (ps.map Value.ref).toArray[j]? = some (.ref (ps.getD j 0))
        rw [e3]
        simp [e1]
      · show s.heap.IsTuple (ps.getD j 0) _
        rw [e3]
        exact e2
  · intro i key v e
    have e : (prs.map fun q => (Value.ref q.2.1, q.2.2))[i]? = some (key, v) := e
    rw [List.getElem?_map] at e
    cases hq : prs[i]? with
    | none => rw [hq] at e; cases e
    | some x =>
      rw [hq] at e
      cases e
      exact ⟨x.1, x.2.1, rfl, rfl⟩
  · intro h' hk x hx
    obtain ⟨o, items, n, ho, hc, hd, hi⟩ := hkeys x hx
    exact ⟨o, items, n, hk _ _ (Nat.ne_of_lt (Heap.lt_size ho)) (fun z => nomatch z) ho, hc, hd, hi⟩
  · have hm : (s.heap.objs.size == sysModules) = false := beq_eq_false_iff_ne.mpr (Nat.ne_of_gt I.big)
    have hlen : (mergeT [] kvs).length ≤ sizeLine := by
      refine Nat.le_trans (mergeT_len kvs []) ?_
      have h1 := rel.length
      rw [List.length_nil, Nat.zero_add, h1, hl]
      exact hz
    obtain ⟨o, es, ep, c1, c2, c3, c4, _, c6⟩ := hd'
    have hn : H s.heap.objs.size = none := I.hok.fresh (Nat.le_refl _)
    have kt : KT (upd H s.heap.objs.size (.dT (mergeT [] kvs))) (mergeT [] kvs) (storedAllH [] prs) := (KT.all (.nil : KT H [] []) rel).keeps fun b ys e => by
      rw [upd_ne (ne_of_none e hn)]
      exact e
    exact ⟨.ref s.heap.objs.size, upd H s.heap.objs.size (.dT (mergeT [] kvs)), I.laid (t' := tk) (fun b o e => k b o (fun z => nomatch z) e) (Nat.le_refl _) (show ObjOk X.prog X.w _ _ _ (.dT (mergeT [] kvs)) from ⟨hlen, hm, _, kt, o, es, ep, c1, c2, c3, c4, c6⟩), rfl, q _ hn⟩
end
/-! ### list(d.items()) where keys are tuples -/
section
variable {prog : Program} {w : World} {A : Around} {E : Value → Shared → Prop} {s : Shared} {r d : Addr} {es : Array DictEntry} {ep : Nat}
theorem list_view {Q : Value → Shared → Prop} (hh : A.handled = none) (hv : s.heap.IsItemsView r d) (hm : DT.Raw s.heap d es ep) (hn : es.size ≤ sizeLine)
    (hQ : ∀ h' tk acc c as, (∀ b o, s.heap.get? b = some o → h'.get? b = some o) → h'.get? s.heap.objs.size = some { cls := .type "list", dict := none, data := .seq acc c, slots := #[] } →
      as.length = es.size → DT.Made es s.heap.objs.size h' as → acc.toList = as.map Value.ref → Q (.ref s.heap.objs.size) { s with heap := h', toks := tk }) :
    wpAny (model prog w) A (call (.type "list") [.ref r]) Q E s := by
  have rlt : r < s.heap.objs.size := by
    obtain ⟨_, ho, _⟩ := hv
    exact Heap.lt_size ho
  refine callType_codes (Q₁ := fun x s₁ => x = .ref s.heap.objs.size ∧ s₁ = { s with heap := s.heap.push { cls := .type "list", data := .seq #[] } }) PySem.F.called_list (PySem.F.typeCall_list_1 _) PySem.F.entry_list_init (code_list_new _ ⟨rfl, rfl⟩) fun x s₁ hx => ?_
  obtain ⟨rfl, rfl⟩ := hx
  have e0 : (s.heap.push { cls := .type "list", data := .seq #[] }).get? s.heap.objs.size = some { cls := .type "list", data := .seq #[] } := Heap.get?_push_size _ rfl
  refine ⟨⟨_, e0, rfl⟩, PySem.F.args_list_init_2 _ _, ?_⟩
  show wpAny _ _ (Builtin.List.listItems (.ref s.heap.objs.size) >>= fun old => Builtin.List.listUpdate (.ref s.heap.objs.size) (fun _ => #[]) >>= fun _ => letGo old.toList.reverse >>= fun _ => Builtin.List.listExtendWith (.ref s.heap.objs.size) (.ref r) .none) _ _ _
  refine wpAny_bind ?_
  unfold Builtin.List.listItems
  refine wpAny_bind (wpAny_seqItems e0 rfl (wpAny_pure ?_))
  refine wpAny_bind (wpAny_updateSeq e0 rfl ?_)
  have e1 := Heap.get?_update_self (Obj.mapSeq (fun _ => (#[] : Array Value))) e0 rfl
  have far : ∀ b o, s.heap.get? b = some o → ((s.heap.push { cls := .type "list", data := .seq #[] }).update s.heap.objs.size (Obj.mapSeq (fun _ => (#[] : Array Value)))).get? b = some o := fun b o e => by
    rw [Heap.get?_update_other _ _ (Nat.ne_of_gt (Heap.lt_size e))]
    exact Heap.get?_push_of_some _ e
  refine wpAny_bind (wpAny_letGo ?_)
  refine DT.extI (prog := prog) (w := w) (A := A.in1) (R := wants (fun r s₂ => r = Value.none ∧ Q (Value.ref s.heap.objs.size) s₂) E) (s := { s with heap := (s.heap.push { cls := .type "list", data := .seq #[] }).update s.heap.objs.size (Obj.mapSeq (fun _ => (#[] : Array Value))) }) hh (by obtain ⟨o, ho, x⟩ := hv; exact ⟨o, far _ _ ho, x⟩) (hm.at' fun o e => far _ _ e) s.heap.objs.size (Nat.ne_of_gt rlt) (Nat.ne_of_lt hm.lt) .none _ e1 (fun h' tk acc c as hk hS hl hG hacc => ?_) hn
  refine ⟨rfl, hQ h' tk acc c as (fun b o e => hk b o (Nat.ne_of_lt (Heap.lt_size e)) (far b o e)) hS hl (hG.low ?_) hacc⟩
  exact Nat.le_of_lt (Heap.lt_size e1)
end
theorem paired_of {α β : Type} {F : α → β → Prop} : ∀ {xs : List α} {ys : List β}, xs.length = ys.length → (∀ (j : Nat) x y, xs[j]? = some x → ys[j]? = some y → F x y) → Paired F xs ys
  | [], [], _, _ => .nil
  | [], _ :: _, h, _ => by simp at h
  | _ :: _, [], h, _ => by simp at h
  | x :: xs, y :: ys, h, g => .cons (g 0 x y rfl rfl) (paired_of (by simpa using h) fun j a b ha hb => g (j + 1) a b (by simpa using ha) (by simpa using hb))
theorem paired_at {α β : Type} {F : α → β → Prop} : ∀ {xs : List α} {ys : List β} {j : Nat} {x : α} {y : β}, Paired F xs ys → xs[j]? = some x → ys[j]? = some y → F x y
  | _, _, _, _, _, .nil, h, _ => by simp at h
  | _, _, 0, _, _, .cons r _, h1, h2 => by
    cases (show _ = _ from Option.some.inj h1)
    cases (show _ = _ from Option.some.inj h2)
    exact r
  | _, _, j + 1, _, _, .cons _ t, h1, h2 => paired_at (j := j) t (by simpa using h1) (by simpa using h2)
theorem refs_vals : ∀ as : List Addr, Vals (as.map V.ref) (as.map Value.ref)
  | [] => .nil
  | _ :: as => .cons rfl (refs_vals as)
theorem nodup_ix {α : Type} {xs : List α} (h : xs.Nodup) {i j : Nat} {x : α} (hi : xs[i]? = some x) (hj : xs[j]? = some x) : i = j := by
  obtain ⟨hi1, hi2⟩ := List.getElem?_eq_some_iff.mp hi
  obtain ⟨hj1, hj2⟩ := List.getElem?_eq_some_iff.mp hj
  have pw := List.pairwise_iff_getElem.mp (show xs.Pairwise (· ≠ ·) from h)
  rcases Nat.lt_trichotomy i j with c | c | c
  · exact absurd (hi2.trans hj2.symm) (pw i j hi1 hj1 c)
  · exact c
  · exact absurd (hj2.trans hi2.symm) (pw j i hj1 hi1 c)
section
variable {X : Cx}
theorem call_listItT (hc : X.calm = true) : CallR X (.type "list") (fun xs H Q => ∃ (p a : Addr) (kvs : List (List Key × V)), xs = [.ref p] ∧ H p = some (L2.DX.itemsO p a) ∧ H a = some (.dT kvs) ∧
    ∀ (H' : Hp) (l : Addr) (ts : List Addr), Same H H' → H l = none → H' l = some (.lst (ts.map V.ref)) → PairsT H' ts kvs → Q (.ref l) H') := by
  intro pins s σ H xs us Q I r h
  obtain ⟨p, a, kvs, rfl, hp, ha, q⟩ := h
  obtain ⟨u, rfl, rx⟩ := vals1 r
  cases (show u = Value.ref p from rx)
  have view : s.heap.IsItemsView p a := (show ObjOk X.prog X.w H s.heap p (L2.DX.itemsO p a) from I.hok p _ hp).1
  obtain ⟨z, hd, ks, rel, o, es, ep, ho, hx, hdat, hes, his, hn⟩ := dt_of I.hok ha
  have l1 : kvs.length = ks.length := Paired.length rel
  have l2 : es.size = ks.length := size_of_entries hes
  refine list_view (I.ok.hd hc) view ⟨o, ho, hx, hdat⟩ (by omega) fun h' tk acc c as hk hS hl hG hacc => ?_
  have nd : as.Nodup := List.Pairwise.imp (fun h => Nat.ne_of_lt h) hG.rise
  have newS : H s.heap.objs.size = none := I.hok.fresh (Nat.le_refl _)
  have I1 : Inv X pins σ (upd H s.heap.objs.size (.lst (as.map V.ref))) { s with heap := h', toks := tk } :=
    I.laid (t' := tk) hk (Nat.le_refl _) (show ObjOk X.prog X.w _ h' _ (.lst (as.map V.ref)) from ⟨by rw [List.length_map]; omega, acc.toList, c, by rw [hacc]; exact refs_vals as, by simpa using hS⟩)
  obtain ⟨H2, I2, g, tq⟩ := L2.DX.takeT (P := fun b vs => ∃ (j : Nat) (kv : List Key × V) (kq : Addr), as[j]? = some b ∧ kvs[j]? = some kv ∧ H kq = some (.tup (kv.1.map kV)) ∧ vs = [.ref kq, kv.2]) I as _ I1 nd fun b hb => by
    obtain ⟨j, hj⟩ := List.mem_iff_getElem?.mp hb
    obtain ⟨en, he, hg⟩ := hG.pairs j b hj
    have hb0 := hG.above b hb
    refine ⟨Nat.le_of_lt hb0, ?_, ?_⟩
    · rw [upd_ne (Nat.ne_of_gt hb0)]
      exact I.hok.fresh (Nat.le_of_lt hb0)
    · rw [entry_at hes j] at he
      cases hkj : ks[j]? with
      | none => rw [hkj] at he; cases he
      | some x =>
        rw [hkj] at he
        cases (show entryOfKey (tupleKind (mixKind X.prog X.w)) x = en from Option.some.inj he)
        have hjl : j < kvs.length := by
          rw [l1]
          exact (List.getElem?_eq_some_iff.mp hkj).1
        obtain ⟨r1, r2, r3⟩ := paired_at rel (List.getElem?_eq_getElem hjl) hkj
        exact ⟨_, ⟨j, kvs[j], x.2.1, hj, List.getElem?_eq_getElem hjl, r2, rfl⟩, fun _ => ⟨by show 2 ≤ sizeLine; decide, [Value.ref x.2.1, x.2.2], .cons rfl (.cons r3 .nil), ⟨_, hg, rfl, 0, rfl⟩⟩⟩
  have sm : Same H H2 := fun b o e => g b o (by rw [upd_ne (ne_of_none e newS)]; exact e)
  refine ⟨.ref s.heap.objs.size, H2, I2, rfl, q H2 _ as sm newS (g _ _ upd_same) (paired_of (by omega) fun j b kv hb hkv => ?_)⟩
  obtain ⟨vs, ⟨i, kv', kq, hi, hkv', hq, rfl⟩, e2⟩ := tq b (List.mem_of_getElem? hb)
  have := nodup_ix nd hi hb
  subst this
  rw [hkv] at hkv'
  cases hkv'
  exact ⟨kq, e2, sm _ _ hq⟩
end
/-! ### sorted(d), the keys pairs of texts -/
def dP (k : Str × Str) : PyData := .tuple [.str k.1, .str k.2]
def kP (k : Str × Str) : List Key := [Sum.inr k.1, Sum.inr k.2]
def ltP (x y : Str × Str) : Bool := PySem.W.dataLt (dP x) (dP y)
def leP (x y : Str × Str) : Bool := !ltP y x
theorem alikeP (x y : Str × Str) : PySem.W.alike (dP x) (dP y) = true := rfl
section
variable {prog : Program} {w : World} {A : Around} {s : Shared}
theorem sorts_pairs {bs : List Addr} {ks : List (Str × Str)} (h : Paired (fun b k => ∃ as, Reads s.heap (.ref b) (dP k) as) bs ks) (hu : A.units + 66 < cLine) :
    PySem.W.SortsAt prog w A s (PySem.W.dataKind s.heap (ks.map dP)) (bs.map Value.ref) ∧
    PySem.W.sortVals (PySem.W.dataKind s.heap (ks.map dP)) false (bs.map Value.ref) (bs.map Value.ref) = ((bs.zip ks).mergeSort fun x y => leP x.2 y.2).map fun x => Value.ref x.1 := by
  have hal : PySem.W.AllAlike (ks.map dP) := fun d hd d' hd' => by
    obtain ⟨x, _, rfl⟩ := List.mem_map.mp hd
    obtain ⟨y, _, rfl⟩ := List.mem_map.mp hd'
    exact alikeP x y
  have hso : PySem.W.Sortable (ks.map dP) := .inl fun d hd => by
    obtain ⟨x, _, rfl⟩ := List.mem_map.mp hd
    exact ⟨_, _, rfl⟩
  have e1 : PySem.W.EachIs (fun v d => ∃ as, Reads s.heap v d as) (bs.map Value.ref) (ks.map dP) := by
    induction h with
    | nil => exact .nil
    | cons r _ ih => exact .cons r (ih (fun d hd d' hd' => hal d (List.mem_cons_of_mem _ hd) d' (List.mem_cons_of_mem _ hd')) (.inl fun d hd => by
        obtain ⟨x, _, rfl⟩ := List.mem_map.mp hd
        exact ⟨_, _, rfl⟩))
  refine ⟨PySem.W.SortsAt.data e1 hal hso fun d hd => ?_, ?_⟩
  · obtain ⟨x, _, rfl⟩ := List.mem_map.mp hd
    show A.units + 1 < cLine
    omega
  · have hl : bs.length = ks.length := h.length
    have e2 : PySem.W.EachIs (fun (v : Value) (b : Addr × Str × Str) => v = Value.ref b.1) (bs.map Value.ref) (bs.zip ks) := by
      clear e1 hal hso
      induction h with
      | nil => exact .nil
      | cons r _ ih => exact .cons rfl (ih (by simpa using hl))
    have e3 : PySem.W.EachIs (fun (v : Value) (b : Addr × Str × Str) => (PySem.W.dataKind s.heap (ks.map dP)).keyOf v = some (PySem.W.keyToks (dP b.2))) (bs.map Value.ref) (bs.zip ks) := by
      have gen : ∀ {bs' : List Addr} {ks' : List (Str × Str)}, Paired (fun b k => ∃ as, Reads s.heap (.ref b) (dP k) as) bs' ks' → (∀ k ∈ ks', k ∈ ks) →
          PySem.W.EachIs (fun (v : Value) (b : Addr × Str × Str) => (PySem.W.dataKind s.heap (ks.map dP)).keyOf v = some (PySem.W.keyToks (dP b.2))) (bs'.map Value.ref) (bs'.zip ks') := by
        intro bs' ks' h hk
        induction h with
        | nil => exact .nil
        | cons r _ ih =>
          obtain ⟨as, r⟩ := r
          exact .cons (PySem.W.dataKind_some hal (List.mem_map_of_mem (hk _ (List.mem_cons_self ..))) r) (ih fun k hk' => hk k (List.mem_cons_of_mem _ hk'))
      exact gen h fun _ h => h
    have e4 := PySem.W.sortVals_each (κ := PySem.W.dataKind s.heap (ks.map dP)) (rev := false) (fun b : Addr × Str × Str => PySem.W.keyToks (dP b.2)) e2 e3
    have e5 : ((bs.zip ks).mergeSort fun x y => leP x.2 y.2) = (bs.zip ks).mergeSort (PySem.W.sortLe (PySem.W.dataKind s.heap (ks.map dP)).toKeyOrd false fun b : Addr × Str × Str => PySem.W.keyToks (dP b.2)) := rfl
    rw [e5]
    generalize (bs.zip ks).mergeSort (PySem.W.sortLe (PySem.W.dataKind s.heap (ks.map dP)).toKeyOrd false fun b : Addr × Str × Str => PySem.W.keyToks (dP b.2)) = L at e4
    clear e5 e3 e2 e1 h hl
    generalize PySem.W.sortVals _ _ _ _ = M at e4
    induction e4 with
    | nil => rfl
    | cons r _ ih =>
      rw [List.map_cons, ← ih, r]
end
theorem zip_snd {α β : Type} : ∀ {xs : List α} {ys : List β}, xs.length = ys.length → (xs.zip ys).map (·.2) = ys
  | [], [], _ => rfl
  | [], _ :: _, h => by simp at h
  | _ :: _, [], h => by simp at h
  | x :: xs, y :: ys, h => by
    show y :: (xs.zip ys).map (·.2) = y :: ys
    rw [zip_snd (by simpa using h)]
/-- what a dict's key tuples are, in order -/
theorem keys_at {H : Hp} {kvs : List (List Key × V)} {xs : List (List Key × Addr × Value)} (rel : KT H kvs xs) : ∀ {ks : List (Str × Str)}, kvs.map (·.1) = ks.map kP → Paired (fun b (k : Str × Str) => H b = some (.tup [.str k.1, .str k.2])) (xs.map fun x => x.2.1) ks := by
  induction rel with
  | nil => intro ks h; cases ks with
    | nil => exact .nil
    | cons k r => cases h
  | @cons p q ps qs h t ih =>
    intro ks e
    cases ks with
    | nil => cases e
    | cons k r =>
      rw [List.map_cons, List.map_cons] at e
      obtain ⟨e1, e2⟩ := List.cons.inj e
      refine .cons ?_ (ih e2)
      obtain ⟨h1, h2, h3⟩ := h
      rw [e1] at h2
      exact h2
theorem paired_zip {α β : Type} {F : α → β → Prop} : ∀ {L : List (α × β)}, (∀ x ∈ L, F x.1 x.2) → Paired F (L.map (·.1)) (L.map (·.2))
  | [], _ => .nil
  | x :: L, h => .cons (h x (List.mem_cons_self ..)) (paired_zip fun y hy => h y (List.mem_cons_of_mem _ hy))
theorem zip_mem {α β : Type} {F : α → β → Prop} {xs : List α} {ys : List β} (h : Paired F xs ys) : ∀ x ∈ xs.zip ys, F x.1 x.2 := by
  induction h with
  | nil => intro x hx; cases hx
  | cons r _ ih =>
    intro x hx
    rcases List.mem_cons.mp hx with e | hx
    · rw [e]; exact r
    · exact ih x hx
section
variable {X : Cx}
/-- sorted(d): a new list of the key tuples -/
theorem call_sortedT (hcalm : X.calm = true) (hu : X.A.units + 80 < cLine) : CallR X (.builtin "sorted") (fun xs H Q => ∃ (a : Addr) (kvs : List (List Key × V)) (ks : List (Str × Str)), xs = [.ref a] ∧ Rd H a (.dT kvs) ∧ kvs.map (·.1) = ks.map kP ∧
    ∀ (p : Addr) (bs : List Addr), H p = none → Paired (fun b (k : Str × Str) => H b = some (.tup [.str k.1, .str k.2])) bs (ks.mergeSort leP) → Q (.ref p) (upd H p (.lst (bs.map V.ref)))) := by
  intro pins s σ H xs us Q I r h
  obtain ⟨a, kvs, ks, rfl, hd, hks, q⟩ := h
  obtain ⟨u, rfl, rx⟩ := vals1 r
  cases (show u = Value.ref a from rx)
  obtain ⟨z, lo, es0, rel, o, es, ep, ho, hx, hdat, hes, his, hn⟩ := dt_rd I.hok hd
  have kat := keys_at rel hks
  have l1 : es.size = es0.length := size_of_entries hes
  have l0 : kvs.length = es0.length := Paired.length rel
  refine Calls.call_function_entry PyProof.Rows.kind_sorted PyProof.Rows.plain_sorted PyProof.Rows.entry_sorted (PyProof.Rows.args_sorted1 _) ?_
  unfold Builtin.«sorted»
  refine wpAny_bind (m := checkCount "sorted" 1 1 _) (wpAny_pure ?_)
  refine wpAny_bind (PySem.W.kdu_collect (A := X.A.in1) (kdl_raw lo hx hdat) (I.ok.hd hcalm) ho (by omega) fun h' tk acc hk hacc => ?_)
  have ev : acc.toList = (es0.map fun x => x.2.1).map Value.ref := by
    refine List.ext_getElem? fun j => ?_
    rw [List.map_map, List.getElem?_map, Array.getElem?_toList]
    cases hj : acc[j]? with
    | none =>
      have : es0.length ≤ j := by
        rw [← l1, ← hacc.1]
        exact Array.getElem?_eq_none_iff.mp hj
      rw [List.getElem?_eq_none this]
      rfl
    | some v =>
      obtain ⟨en, e1, e2⟩ := hacc.2 j v hj
      rw [entry_at hes j] at e1
      cases hx0 : es0[j]? with
      | none => rw [hx0] at e1; cases e1
      | some x =>
        rw [hx0] at e1
        cases (show entryOfKey (tupleKind (mixKind X.prog X.w)) x = en from Option.some.inj e1)
        rw [e2]
        rfl
  generalize hbs : (es0.map fun x => x.2.1) = bs at kat ev
  have lb : bs.length = ks.length := kat.length
  have lb2 : bs.length = kvs.length := by rw [← hbs, List.length_map, l0]
  have I1 : Inv X pins σ H { s with heap := h', toks := tk } := I.kept hk
  rw [ev]
  refine wpAny_bind (wpAny_newList ?_ (by rw [List.length_map]; omega))
  have hoL : (h'.push (seqObj "list" (bs.map Value.ref).toArray 0)).get? h'.objs.size = some (seqObj "list" (bs.map Value.ref).toArray 0) := Heap.get?_push_size _ rfl
  show wpAny _ _ _ _ _ { s with heap := h'.push (seqObj "list" (bs.map Value.ref).toArray 0), toks := tk }
  have far : ∀ b o, h'.get? b = some o → (PySem.W.sortingHeap (h'.push (seqObj "list" (bs.map Value.ref).toArray 0)) h'.objs.size (bs.map Value.ref)).get? b = some o := fun b o e =>
    PySem.W.sortingHeap_old (Nat.ne_of_lt (Heap.lt_size e)) (Heap.get?_push_of_some _ e)
  have rds : Paired (fun b (k : Str × Str) => ∃ as, Reads (PySem.W.sortingHeap (h'.push (seqObj "list" (bs.map Value.ref).toArray 0)) h'.objs.size (bs.map Value.ref)) (.ref b) (dP k) as) bs ks :=
    Paired.mapP kat fun b k e => by
      obtain ⟨as, rd⟩ := Dp.reads I1 (dP k) (.ref b) (.ref b) (.tup (.inl (.inl e)) (.cons (.str _) (.cons (.str _) .nil))) rfl
      exact ⟨as, Reads.keeps far rd⟩
  obtain ⟨S1, S2⟩ := sorts_pairs (prog := X.prog) (w := X.w) (A := X.A.in1.in1) (s := { s with heap := PySem.W.sortingHeap (h'.push (seqObj "list" (bs.map Value.ref).toArray 0)) h'.objs.size (bs.map Value.ref), toks := tk }) rds (by show X.A.units + 1 + 1 + 66 < cLine; omega)
  have hz : (bs.map Value.ref).length ≤ sizeLine := by rw [List.length_map]; omega
  refine wpAny_bind (wpAny_holding (wpAny_call_entry PyProof.Rows.slot_list_sort ⟨_, hoL, rfl⟩ PyProof.Rows.entry_list_sort
    (PySem.W.list_sort_vals (s := { s with heap := h'.push (seqObj "list" (bs.map Value.ref).toArray 0), toks := tk }) hoL S1 hz ⟨_, rfl, ?_⟩) (PyProof.Rows.args_list_sort _)))
  rw [S2]
  have eL : ((bs.zip ks).mergeSort fun x y => leP x.2 y.2).map (·.2) = ks.mergeSort leP := by
    rw [PySem.W.sort_maps (s := leP) (fun x : Addr × Str × Str => x.2) (fun a _ b _ => rfl), zip_snd lb]
  have pL : ∀ x ∈ (bs.zip ks).mergeSort fun x y => leP x.2 y.2, H x.1 = some (.tup [.str x.2.1, .str x.2.2]) := fun x hx =>
    zip_mem kat x ((List.mergeSort_perm _ _).subset hx)
  have nL : ((bs.zip ks).mergeSort fun x y => leP x.2 y.2).length = ks.length := by
    rw [(List.mergeSort_perm _ _).length_eq, List.length_zip, lb, Nat.min_self]
  generalize ((bs.zip ks).mergeSort fun x y => leP x.2 y.2) = L at eL pL nL
  obtain ⟨e', he'⟩ := PyProof.Rows.sortedHeap_at (vs := bs.map Value.ref) (out := (L.map fun x => Value.ref x.1).toArray) hoL
  have new : H h'.objs.size = none := I1.hok.fresh (Nat.le_refl _)
  have prs : Paired (fun b (k : Str × Str) => H b = some (.tup [.str k.1, .str k.2])) (L.map (·.1)) (ks.mergeSort leP) := by
    rw [← eL]
    exact paired_zip pL
  have rv : Vals ((L.map (·.1)).map V.ref) (L.map fun x => Value.ref x.1) := by
    clear pL eL nL he' prs
    induction L with
    | nil => exact .nil
    | cons x r ih => exact .cons rfl ih
  refine wpAny_pure ⟨_, rfl, .ref h'.objs.size, upd H h'.objs.size (.lst ((L.map (·.1)).map V.ref)), I1.laid (t' := tk) (fun b u e => ?_) (Nat.le_refl _)
    (show ObjOk X.prog X.w _ _ _ (.lst ((L.map (·.1)).map V.ref)) from ⟨by rw [List.length_map, List.length_map]; omega, L.map fun x => Value.ref x.1, e', rv, he'⟩), rfl, q _ _ new prs⟩
  have hb : b < h'.objs.size := Heap.lt_size e
  rw [PyProof.Rows.sortedHeap_old (Nat.ne_of_lt hb) (by rw [size_push']; exact Nat.lt_succ_of_lt hb)]
  exact Heap.get?_push_of_some _ e
end
/-! ### {(a, b): v, ..} and d.pop(k) -/
section
variable {X : Cx}
def tDispT (trs : List (TE × TE)) : TE := fun σ H Q => ∀ p, H p = none → tPairs trs σ (upd H p (.dT [])) fun ps H2 => H2 p = some (.dT []) ∧ ∃ kvs : List (List Key × V),
  Paired (fun (r : V × V) (kv : List Key × V) => ∃ b, r = (.ref b, kv.2) ∧ H2 b = some (.tup (kv.1.map kV))) ps kvs ∧ kvs.length ≤ 15 ∧ Q (.ref p) (upd H2 p (.dT (mergeT [] kvs)))
theorem carriesT {pins : List (Addr × Obj)} {σ : L2.St} {H : Hp} {s : Shared} (I : Inv X pins σ H s) : ∀ {ps : List (V × V)} {kvs : List (List Key × V)} {vs : List (Value × Value)},
    Paired (fun (r : V × V) (kv : List Key × V) => ∃ b, r = (.ref b, kv.2) ∧ H b = some (.tup (kv.1.map kV))) ps kvs → VV ps vs →
    ∃ prs : List (List Key × Addr × Value), CarriesH (tupleKind (mixKind X.prog X.w)) s.heap vs prs ∧ KT H kvs prs
  | _, _, _, .nil, .nil => ⟨[], trivial, .nil⟩
  | _, _, _, .cons (b := kv) h t, .cons (b := u) r t2 => by
    obtain ⟨prs, c, k⟩ := carriesT I t t2
    obtain ⟨b, e, hb⟩ := h
    subst e
    obtain ⟨u1, u2⟩ := u
    obtain ⟨r1, r2⟩ := r
    cases (show u1 = Value.ref b from r1)
    exact ⟨(kv.1, b, u2) :: prs, ⟨rfl, rfl, key_of I.hok hb, c⟩, .cons ⟨rfl, hb, r2⟩ k⟩
theorem pe_dispT {pos : Pos} {keys : List (Option Expr)} {values : List Expr} {trs : List (TE × TE)} (hu : X.A.units + 3 < cLine) (h : PPs X pos keys values trs) (hall : keys.all (·.isSome) = true) (hl : keys.length = values.length) (h0 : keys ≠ [])
    (h15 : keys.length ≤ 15) : PE X (.Dict keys values pos) (tDispT trs) := by
  refine ⟨fun pins s σ H Q I q => ?_⟩
  have hn := I.hok.fresh (Nat.le_refl s.heap.objs.size)
  have I1 := I.laid (a := s.heap.objs.size) (o := .dT []) (h' := s.heap.push { cls := .type "dict", data := .dict #[] }) (t' := s.toks) (fun _ _ q => Heap.get?_push_of_some _ q) (Nat.le_refl _) (dt_empty s.heap I.big)
  have hpl := pairTrees_length keys values X.env pos hall hl
  rw [arm_eval_Dict, zip_pairTrees keys values X.env pos hall hl, dictDisplay_pairs _ (fun he => by
    rw [he] at hpl
    exact h0 (List.length_eq_zero_iff.mp hpl.symm)) (by omega)]
  refine wpAny_bind (wpAny_standAt (wpAny_bind (wpAny_subDictH (knd := tupleKind (mixKind X.prog X.w)) (by show X.A.units < cLine; omega) (by omega) (thn (h.run pins _ σ _ _ I1 (q _ hn)) fun vs s2 ⟨ps, H2, I2, rel, e, kvs, pk, lk, q2⟩ => ?_))))
  obtain ⟨prs, c, kt⟩ := carriesT I2 pk rel
  obtain ⟨z, hd, xs0, r0, dd⟩ := dt_of I2.hok e
  cases r0
  refine ⟨prs, c, dd, fun h' tk dd' hs => wpAny_pure ?_⟩
  obtain ⟨o, es, ep, hq, h2, h3, h4, _, h5⟩ := dd'
  have hlen : (mergeT [] kvs).length ≤ sizeLine := by
    have := mergeT_len kvs []
    have e2 : sizeLine = 16777216 := by decide
    rw [List.length_nil, Nat.zero_add] at this
    omega
  exact ⟨.ref s.heap.objs.size, _, d_write (t' := tk) (ob := .dT (mergeT [] kvs)) I2 (by rw [e]; exact True.intro) hs ⟨o, hq⟩ (show ObjOk X.prog X.w _ h' _ (.dT (mergeT [] kvs)) from ⟨hlen, hd, _, (KT.all (.nil : KT H2 [] []) kt).keeps (fun c ys ec => (by rw [upd_ne (ne_of ec e (fun z => nomatch z))]; exact ec)), o, es, ep, hq, h2, h3, h4, h5⟩), rfl, q2⟩
/-- d.pop(k), the key there -/
def rPopT1 : V → List V → Hp → VK → Prop := fun x xs H Q => ∃ (a : Addr) (kvs : List (List Key × V)) (k : List Key) (b : Addr) (v : V), x = .ref a ∧ xs = [.ref b] ∧ H a = some (.dT kvs) ∧ H b = some (.tup (k.map kV)) ∧ valV kvs k = some v ∧ Q v (upd H a (.dT (dropK kvs k)))
theorem meetsPop1 {prog : Program} {w : World} {K : Type} [DecidableEq K] {knd : HeapKind prog w K} {d b : Addr} {k : K} (hd : (d == sysModules) = false) :
    MeetsIn prog w (Builtin.«dict.pop» ⟨[.ref d, .ref b], []⟩) (fun A R s => ∃ xs p, knd.room A.in1 ∧ knd.is s.heap k b ∧ s.heap.DictOfH knd d xs ∧ xs.length ≤ sizeLine ∧ atKey xs k = some p ∧
      ∀ h' tk, h'.DictOfH knd d (DT.dropH xs k) → Heap.SameBut d s.heap h' → R (.ok (.ret p.2)) { s with heap := h', toks := tk }) :=
  .of_wp fun A R s ⟨xs, p, hu, hkey, hm, hsz, hp, hsome⟩ => by
    obtain ⟨o, es, ep, ho, hc, hdat, he, his, hn⟩ := id hm
    have hes : es.size = xs.length := size_of_entries he
    have hpart : (keyPart (Value.ref b)).isSome = false := rfl
    unfold Builtin.«dict.pop»
    refine wpAny_bind ?_
    unfold Builtin.Dict.keyAndDefault
    refine wpAny_bind (wpAny_notOrdered_dict hm.typeIs ?_)
    refine wpAny_pure ?_
    simp only [hpart, Bool.false_eq_true, if_false]
    refine wpAny_bind (wpAny_dictEntries ho hdat (wpAny_bind (wpAny_pure ?_)))
    cases hem : es.isEmpty with
    | true =>
      have h0 : xs = [] := by
        have z : es.size = 0 := by simpa using hem
        exact List.length_eq_zero_iff.mp (by omega)
      rw [h0] at hp
      cases hp
    | false =>
      simp only [Bool.false_eq_true, if_false]
      refine wpAny_bind (DT.takeH hu hkey hm hsz (fun hno => by rw [hno] at hp; cases hp) fun p' e hp' hev h' hm' hs' => ?_)
      rw [hp] at hp'
      cases hp'
      simp only [Option.isNone_some, Bool.false_eq_true, if_false]
      exact wpAny_bind (wpAny_letGo (wpAny_pure ⟨e.val, rfl, by rw [hev]; exact hsome h' _ hm' hs'⟩))
theorem mt_popT1 (hu : X.A.units + 3 < cLine) : MtR X "dict.pop" rPopT1 := by
  intro pins s σ H x xs v us Q I rx rxs h
  obtain ⟨a, kvs, k, b, v0, rfl, rfl, ha, hb, ev, q⟩ := h
  cases rx
  obtain ⟨u, rfl, r1⟩ := vals1 rxs
  cases (show u = Value.ref b from r1)
  obtain ⟨z, hd, xs', rel, dd⟩ := dt_of I.hok ha
  have hz : xs'.length ≤ sizeLine := by rw [← Paired.length rel]; exact z
  have r := rel.val k
  rw [ev] at r
  cases hp0 : atKey xs' k with
  | none => rw [hp0] at r; exact (show False from r).elim
  | some p =>
    rw [hp0] at r
    have rv : RelV v0 p.2 := r
    refine call_meetsIn PySem.F.slot_dict_pop dd.typeIs PySem.F.entry_dict_pop (PySem.F.args_dict_pop_2 _ _) (meetsPop1 (knd := tupleKind (mixKind X.prog X.w)) (k := k) hd)
      ⟨xs', p, (by show X.A.units + 1 < cLine; omega), key_of I.hok hb, dd, hz, hp0, fun h' tk dd' hs => ?_⟩
    obtain ⟨o, es, ep, hq, h2, h3, h4, _, h5⟩ := dd'
    have I2 : Inv X pins σ (upd H a (.dT (dropK kvs k))) { s with heap := h', toks := tk } :=
      d_write I (by rw [ha]; exact True.intro) hs ⟨o, hq⟩ ⟨Nat.le_trans (dropK_le kvs k) z, hd, _, (L2.DX.KT_drop k rel).keeps (fun c ys ec => (by rw [upd_ne (ne_of ec ha (fun z => nomatch z))]; exact ec)), o, es, ep, hq, h2, h3, h4, h5⟩
    exact ⟨v0, _, I2, rv, q⟩
end
/-! ### plain nets -/
def ltS (x y : Str) : Bool := decide (x.cps.toList < y.cps.toList)
def ordP (x y : Str) : Str × Str := if ltS x y = true then (x, y) else (y, x)
def pairsOf (ps : List Str) : List (Str × Str) := ps.flatMap fun x => (ps.filter fun y => ltS x y).map fun y => (x, y)
/-- the key tuples stand at bs -/
def KeysAt (H : Hp) (bs : List Addr) (ks : List (Str × Str)) : Prop := Paired (fun b (k : Str × Str) => H b = some (.tup [.str k.1, .str k.2])) bs ks
theorem KeysAt.same {H H' : Hp} {bs : List Addr} {ks : List (Str × Str)} (s : Same H H') (h : KeysAt H bs ks) : KeysAt H' bs ks := Paired.mapP h fun _ _ e => s _ _ e
theorem Paired.app {α β : Type} {F : α → β → Prop} {a b : List α} {c d : List β} (h : Paired F a c) (g : Paired F b d) : Paired F (a ++ b) (c ++ d) := by
  induction h with
  | nil => exact g
  | cons r _ ih => exact .cons r ih
theorem scPairL : FnScope ["one", "other"] ["one", "other"] (defScope sPairL) := ⟨rfl, rfl, rfl, by decide +kernel, rfl, by decide +kernel, by decide +kernel⟩
theorem scPairsL : FnScope ["places", "found", "one", "other"] ["places"] (defScope sPairsL) := ⟨rfl, rfl, rfl, by decide +kernel, rfl, by decide +kernel, by decide +kernel⟩
theorem scWith : FnScope ["net", "pair", "more", "ties"] ["net", "pair", "more"] (defScope sWith) := ⟨rfl, rfl, rfl, by decide +kernel, rfl, by decide +kernel, by decide +kernel⟩
def spPairL : Sp := fun vs H Q _ => ∃ x y, vs = [.str x, .str y] ∧ ∀ p, H p = none → Q (.ref p) (upd H p (.tup [.str (ordP x y).1, .str (ordP x y).2]))
def spPairsL (K : PySem.W.Frag) : Sp := fun vs H Q _ => ∃ (pl : Addr) (ps : List Str), vs = [.ref pl] ∧ SqL K H pl (ps.map V.str) ∧ ps.length ≤ 9 ∧
  ∀ H' l bs, Same H H' → H l = none → H' l = some (.lst (bs.map V.ref)) → KeysAt H' bs (pairsOf ps) → Q (.ref l) H'
theorem slx {n : Nat} (h : n ≤ 1000) : n ≤ sizeLine := Nat.le_of_lt (small1000 h)
section
variable {P : Program} {w : World} {K : PySem.W.Frag} {mg : Str → Option Value} {base : Heap}
theorem ok_pairL {f : Addr} {fd : FuncData} {k : Nat} (F : Fun K "_law_pair" "_law_pair" sPairL f fd) : FnOk P w K mg base CX0 (k + 1) f fd ["one", "other"] spPairL := by
  refine F.ok scPairL (fun vs H Q E h => ?_) (fun cdv A outer s H vs Q E hr h => ?_)
  · obtain ⟨x, y, rfl, _⟩ := h
    rfl
  · obtain ⟨x, y, rfl, q⟩ := h
    refine ⟨_, pss_one (ps_ret (pe_ifExp (pt_cmpR op_lt_str (pv 0) (pv 1) (nomark _)) (pe_tup (pa_cons (pv 0) (pa_cons (pv 1) pa_nil))) (pe_tup (pa_cons (pv 1) (pa_cons (pv 0) pa_nil))))), ?_⟩
    refine ⟨.str x, rfl, .str y, rfl, x, y, rfl, rfl, _, rfl, ite2 (fun e => ?_) (fun e => ?_)⟩
    · refine ⟨.str x, rfl, .str y, rfl, slx (n := 2) (by decide), fun p np => ?_⟩
      have e2 : ordP x y = (x, y) := if_pos e
      rw [e2] at q
      exact q p np
    · refine ⟨.str y, rfl, .str x, rfl, slx (n := 2) (by decide), fun p np => ?_⟩
      have e2 : ordP x y = (y, x) := if_neg e
      rw [e2] at q
      exact q p np
theorem filter_le (ps : List Str) (x : Str) (i : Nat) : ((ps.take i).filter fun y => ltS x y).length ≤ ps.length := Nat.le_trans (List.length_filter_le _ _) (by rw [List.length_take]; exact Nat.min_le_right _ _)
theorem pairsOf_len (qs ps : List Str) : (qs.flatMap fun x => (ps.filter fun y => ltS x y).map fun y => (x, y)).length ≤ qs.length * ps.length := by
  induction qs with
  | nil => simp
  | cons x r ih =>
    rw [List.flatMap_cons, List.length_append, List.length_map, List.length_cons, Nat.succ_mul]
    have := List.length_filter_le (fun y => ltS x y) ps
    omega
theorem ok_pairsL {f : Addr} {fd : FuncData} {k : Nat} (F : Fun K "_law_pairs" "_law_pairs" sPairsL f fd) : FnOk P w K mg base CX0 (k + 1) f fd ["places"] (spPairsL K) := by
  refine F.ok scPairsL (fun vs H Q E h => ?_) (fun cdv A outer s H vs Q E hr h => ?_)
  · obtain ⟨pl, ps, rfl, _⟩ := h
    rfl
  · obtain ⟨pl, ps, rfl, hp, hlen, q⟩ := h
    refine ⟨_, pss_cons (ps_set (i := 1) scPairsL.nd rfl (.inl rfl) (pe_lst pa_nil))
      (pss_cons (ps_for PassesOwn.never rfl (pi_list (pv 0)) (pg_name (i := 2) scPairsL.nd rfl (.inr rfl))
        (pss_one (ps_set (i := 1) scPairsL.nd rfl (.inl rfl) (pe_op op_cat (pv 1) (pe_lc (own := [("other", 3)]) (g := gName 3) rfl scPairsL.nd (pi_list (pv 0))
          (blkOk_by (N := ["places", "found", "one", "other"]) (sc := defScope sPairsL) (by decide +kernel)) (fun _ _ _ _ _ => pg_name (i := 3) scPairsL.nd rfl (Or.inl rfl)) (fun _ _ _ _ _ => pts_one (pt_cmpR op_lt_str (pv 2) (pv 3) (nomark _)))
          (fun _ _ _ _ _ => pe_tup (pa_cons (pv 2) (pa_cons (pv 3) pa_nil))))))))
      (pss_one (ps_ret (pv 1)))), ?_⟩
    refine ⟨slx (by decide), fun l0 n0 => ⟨.ref pl, rfl, pl, rfl, ⟨_, (same_upd n0).seq hp⟩, ?_⟩⟩
    refine for_list (K := K) (a := pl) (xs := ps.map V.str) (fun i σ H' => ∃ l bs y2 y3, σ = [some (.ref pl), some (.ref l), y2, y3] ∧ Same H H' ∧ H l = none ∧ H' l = some (.lst (bs.map V.ref)) ∧
        KeysAt H' bs ((ps.take i).flatMap fun x => (ps.filter fun y => ltS x y).map fun y => (x, y))) ⟨l0, [], none, none, rfl, same_upd n0, n0, upd_same, .nil⟩ (fun i σ H' _ h => ?_) (fun i x σ H' hx h => ?_) (fun σ H' h => ?_)
    · obtain ⟨_, _, _, _, _, sm, _⟩ := h
      exact sm.seq hp
    · obtain ⟨l, bs, y2, y3, rfl, sm, nl, el, ka⟩ := h
      obtain ⟨z, hz, rfl⟩ : ∃ z, ps[i]? = some z ∧ x = V.str z := by
        rw [List.getElem?_map] at hx
        cases hm : ps[i]? with
        | none => rw [hm] at hx; cases hx
        | some z => rw [hm] at hx; cases hx; exact ⟨z, rfl, rfl⟩
      have lbs : bs.length ≤ 81 := by
        have h1 := ka.length
        have h2 := pairsOf_len (ps.take i) ps
        have h3 : (ps.take i).length ≤ 9 := Nat.le_trans (by rw [List.length_take]; exact Nat.min_le_right _ _) hlen
        have h4 : (ps.take i).length * ps.length ≤ 9 * 9 := Nat.mul_le_mul h3 hlen
        omega
      refine ⟨.ref l, rfl, .ref pl, rfl, pl, rfl, ⟨_, sm.seq hp⟩, fun D nD => lc_list (K := K) (a := pl) (xs := ps.map V.str)
        (fun j H'' => ∃ cs, Same H' H'' ∧ H'' D = some (.lst (cs.map V.ref)) ∧ KeysAt H'' cs (((ps.take j).filter fun y => ltS z y).map fun y => (z, y))) ⟨[], same_upd nD, upd_same, .nil⟩ (fun j H'' _ h => ?_) (fun j x H'' hx h => ?_) (fun H'' h => ?_)⟩
      · obtain ⟨_, sm2, _⟩ := h
        exact (sm.trans sm2).seq hp
      · obtain ⟨cs, sm2, eD, kc⟩ := h
        obtain ⟨y, hy, rfl⟩ : ∃ y, ps[j]? = some y ∧ x = V.str y := by
          rw [List.getElem?_map] at hx
          cases hm : ps[j]? with
          | none => rw [hm] at hx; cases hx
          | some y => rw [hm] at hx; cases hx; exact ⟨y, rfl, rfl⟩
        refine ⟨rfl, .str z, rfl, .str y, rfl, z, y, rfl, rfl, _, rfl, ite2 (fun e => ?_) (fun e => ?_)⟩
        · refine ⟨.str z, rfl, .str y, rfl, slx (n := 2) (by decide), fun t nt => ⟨cs.map V.ref, ?_, ?_, cs ++ [t], ?_, ?_, ?_⟩⟩
          · rw [upd_ne (ne_of_none eD nt)]
            exact eD
          · have h1 := kc.length
            have h2 := filter_le ps z j
            rw [List.length_map] at h1
            rw [List.length_map]
            exact small1000 (by omega)
          · intro b o hb
            rw [upd_ne (ne_of_none hb nD)]
            exact same_upd nt _ _ (sm2 _ _ hb)
          · rw [upd_same, List.map_append]
            rfl
          · rw [← take_filter_t (fun y => ltS z y) ps j y hy e, List.map_append]
            refine Paired.app ?_ (.cons ?_ .nil)
            · refine Paired.mapP kc fun b k hb => ?_
              rw [upd_ne (ne_of hb eD (fun z => nomatch z))]
              exact same_upd nt _ _ hb
            · rw [upd_ne (ne_of_none eD nt).symm, upd_same]
        · refine ⟨cs, sm2, eD, ?_⟩
          rw [← take_filter_f (fun y => ltS z y) ps j y hy (Bool.eq_false_iff.mpr e)]
          exact kc
      · obtain ⟨cs, sm2, eD, kc⟩ := h
        have ej : ps.take (ps.map V.str).length = ps := by rw [List.length_map, List.take_length]
        rw [ej] at kc
        have lcs : cs.length ≤ 9 := by
          have h1 := kc.length
          have h2 := List.length_filter_le (fun y => ltS z y) ps
          rw [List.length_map] at h1
          omega
        refine ⟨l, D, _, _, rfl, rfl, sm2 _ _ el, eD, (by rw [List.length_map, List.length_map]; exact slx (by omega)), fun p np => ?_⟩
        refine ⟨p, bs ++ cs, _, _, rfl, (sm.trans sm2).trans (same_upd np), (sm.trans sm2).free np, ?_, ?_⟩
        · rw [upd_same, List.map_append]
        · have et : ps.take (i + 1) = ps.take i ++ [z] := by
            rw [List.take_add_one, hz]
            rfl
          rw [et, List.flatMap_append]
          refine Paired.app ((ka.same sm2).same (same_upd np)) ?_
          rw [List.flatMap_cons, List.flatMap_nil, List.append_nil]
          exact kc.same (same_upd np)
    · obtain ⟨l, bs, y2, y3, rfl, sm, nl, el, ka⟩ := h
      have ej : ps.take (ps.map V.str).length = ps := by rw [List.length_map, List.take_length]
      rw [ej] at ka
      exact ⟨.ref l, rfl, q H' l bs sm nl el ka⟩
end
abbrev Ties := List ((Str × Str) × Int)
def tk (ts : Ties) : List (List Key × V) := ts.map fun e => (kP e.1, V.int e.2)
def getT (ts : Ties) (k : Str × Str) : Int := ((ts.find? fun e => decide (e.1 = k)).map (·.2)).getD 0
def putT (ts : Ties) (k : Str × Str) (v : Int) : Ties := if (ts.any fun e => decide (e.1 = k)) = true then ts.map (fun e => if e.1 = k then (e.1, v) else e) else ts ++ [(k, v)]
theorem kP_inj {a b : Str × Str} (h : kP a = kP b) : a = b := by
  unfold kP at h
  injection h with h1 h2
  injection h2 with h2 _
  injection h1 with h1
  injection h2 with h2
  exact Prod.ext h1 h2
theorem tk_keys (ts : Ties) : (tk ts).map (·.1) = (ts.map (·.1)).map kP := by
  unfold tk
  rw [List.map_map, List.map_map]
  rfl
theorem tk_len (ts : Ties) : (tk ts).length = ts.length := List.length_map ..
theorem map_nodup {α β : Type} {f : α → β} (hf : ∀ a b, f a = f b → a = b) : ∀ {xs : List α}, xs.Nodup → (xs.map f).Nodup
  | [], _ => List.nodup_nil
  | x :: xs, h => by
    rw [List.nodup_cons] at h
    rw [List.map_cons, List.nodup_cons]
    refine ⟨fun e => ?_, map_nodup hf h.2⟩
    obtain ⟨y, hy, e⟩ := List.mem_map.mp e
    rw [hf _ _ e] at hy
    exact h.1 hy
theorem tk_nodup {ts : Ties} (h : (ts.map (·.1)).Nodup) : ((tk ts).map (·.1)).Nodup := by
  rw [tk_keys]
  exact map_nodup (fun _ _ => kP_inj) h
theorem tk_val : ∀ (ts : Ties) (k : Str × Str), valV (tk ts) (kP k) = (ts.find? fun e => decide (e.1 = k)).map fun e => V.int e.2
  | [], _ => rfl
  | e :: ts, k => by
    show valV ((kP e.1, V.int e.2) :: tk ts) (kP k) = _
    rw [List.find?_cons]
    by_cases h : e.1 = k
    · rw [valV_pos (by rw [h]), decide_eq_true h]
      rfl
    · rw [valV_neg (fun z => h (kP_inj z)), decide_eq_false h, tk_val ts k]
theorem tk_get (ts : Ties) (k : Str × Str) : (valV (tk ts) (kP k)).getD (.int 0) = V.int (getT ts k) := by
  rw [tk_val]
  unfold getT
  cases ts.find? fun e => decide (e.1 = k) with
  | none => rfl
  | some e => rfl
theorem tk_any (ts : Ties) (k : Str × Str) : ((tk ts).any fun kv => decide (kv.1 = kP k)) = ts.any fun e => decide (e.1 = k) := by
  unfold tk
  rw [List.any_map]
  congr 1
  funext e
  show decide (kP e.1 = kP k) = decide (e.1 = k)
  by_cases h : e.1 = k
  · rw [decide_eq_true h, h]
    exact decide_eq_true rfl
  · rw [decide_eq_false h, decide_eq_false fun z => h (kP_inj z)]
theorem tk_put (ts : Ties) (k : Str × Str) (v : Int) : putK (tk ts) (kP k) (.int v) = tk (putT ts k v) := by
  unfold putK putT
  rw [tk_any]
  by_cases h : (ts.any fun e => decide (e.1 = k)) = true
  · rw [if_pos h, if_pos h]
    unfold tk
    rw [List.map_map, List.map_map]
    congr 1
    funext e
    show (if kP e.1 = kP k then (kP e.1, V.int v) else (kP e.1, V.int e.2)) = (kP (if e.1 = k then (e.1, v) else e).1, V.int (if e.1 = k then (e.1, v) else e).2)
    by_cases z : e.1 = k
    · rw [if_pos (by rw [z]), if_pos z]
    · rw [if_neg (fun y => z (kP_inj y)), if_neg z]
  · rw [if_neg h, if_neg h]
    unfold tk
    rw [List.map_append]
    rfl
theorem find_put (ts : Ties) (k : Str × Str) (v : Int) : (putT ts k v).find? (fun e => decide (e.1 = k)) = some (k, v) := by
  unfold putT
  by_cases h : (ts.any fun e => decide (e.1 = k)) = true
  · rw [if_pos h]
    induction ts with
    | nil => cases h
    | cons e r ih =>
      rw [List.map_cons, List.find?_cons]
      by_cases z : e.1 = k
      · rw [if_pos z, decide_eq_true z, ← z]
      · rw [if_neg z, decide_eq_false z]
        refine ih ?_
        rw [List.any_cons, decide_eq_false z, Bool.false_or] at h
        exact h
  · rw [if_neg h, List.find?_append]
    have : ts.find? (fun e => decide (e.1 = k)) = none := by
      rw [List.find?_eq_none]
      intro e he z
      exact h (List.any_eq_true.mpr ⟨e, he, z⟩)
    rw [this, Option.none_or, List.find?_cons, decide_eq_true rfl]
theorem tk_drop (ts : Ties) (k : Str × Str) : dropK (tk ts) (kP k) = tk (ts.filter fun e => decide (e.1 ≠ k)) := by
  unfold dropK tk
  rw [List.filter_map]
  congr 1
  refine List.filter_congr fun e _ => ?_
  show decide (kP e.1 ≠ kP k) = decide (e.1 ≠ k)
  by_cases h : e.1 = k
  · rw [decide_eq_false (fun z : e.1 ≠ k => z h), decide_eq_false (fun z : kP e.1 ≠ kP k => z (by rw [h]))]
  · rw [decide_eq_true (show e.1 ≠ k from h), decide_eq_true (show kP e.1 ≠ kP k from fun z => h (kP_inj z))]
/-- a plain net: places and ties -/
structure NetAt (H : Hp) (N : Addr) (ps : List Str) (ts : Ties) (pl ti : Addr) : Prop where
  net : H N = some (.dK [(Sum.inr "places", .ref pl), (Sum.inr "ties", .ref ti)])
  pl : H pl = some (.lst (ps.map V.str))
  ti : H ti = some (.dT (tk ts))
theorem NetAt.same {H H' : Hp} {N : Addr} {ps : List Str} {ts : Ties} {pl ti : Addr} (s : Same H H') (h : NetAt H N ps ts pl ti) : NetAt H' N ps ts pl ti := ⟨s _ _ h.net, s _ _ h.pl, s _ _ h.ti⟩
theorem key_ne : ¬ ((Sum.inr ("places" : Str) : Key) = Sum.inr ("ties" : Str)) := by decide
theorem merge2 {a b : V} : mergeK [] [((Sum.inr ("places" : Str) : Key), a), (Sum.inr ("ties" : Str), b)] = [((Sum.inr ("places" : Str) : Key), a), (Sum.inr ("ties" : Str), b)] := by
  simp [mergeK, putK]
  decide
theorem get_ties {a b : V} : valV [((Sum.inr "places" : Key), a), (Sum.inr "ties", b)] (Sum.inr "ties") = some b := by
  rw [valV_neg (show ¬ ((Sum.inr ("places" : Str) : Key), a).1 = Sum.inr ("ties" : Str) from key_ne), valV_pos rfl]
theorem get_places {a b : V} : valV [((Sum.inr "places" : Key), a), (Sum.inr "ties", b)] (Sum.inr "places") = some a := by
  rw [valV_pos rfl]
theorem dget_ties {H : Hp} {N : Addr} {ps : List Str} {ts : Ties} {pl ti : Addr} (h : NetAt H N ps ts pl ti) : DGet H N (.str "ties") (some (.ref ti)) := by
  have := DGet.k (k := Sum.inr "ties") h.net
  rw [get_ties] at this
  exact this
theorem dget_places {H : Hp} {N : Addr} {ps : List Str} {ts : Ties} {pl ti : Addr} (h : NetAt H N ps ts pl ti) : DGet H N (.str "places") (some (.ref pl)) := by
  have := DGet.k (k := Sum.inr "places") h.net
  rw [get_places] at this
  exact this
def spWith : Sp := fun vs H Q _ => ∃ N b m ps ts pl ti k, vs = [.ref N, .ref b, .int m] ∧ NetAt H N ps ts pl ti ∧ H b = some (.tup [.str (k : Str × Str).1, .str k.2]) ∧ getT ts k + m ≠ 0 ∧ ts.length ≤ 100 ∧ ps.length ≤ 100 ∧ (ts.map (·.1)).Nodup ∧
  ∀ H' N' pl' ti', NetAt H' N' ps (putT ts k (getT ts k + m)) pl' ti' → Same H H' → H N' = none → H pl' = none → H ti' = none → Q (.ref N') H'
section
variable {P : Program} {w : World} {K : PySem.W.Frag} {mg : Str → Option Value} {base : Heap}
theorem room80 {k : Nat} {A : Around} (r : Room k A) : A.units + 80 < cLine := by
  have := r.un
  omega
theorem room3 {k : Nat} {A : Around} (r : Room k A) : A.units + 3 < cLine := by
  have := r.un
  omega
theorem ok_with {f : Addr} {fd : FuncData} {k : Nat} (F : Fun K "_law_with" "_law_with" sWith f fd) (mL : mg "list" = none) (mD : mg "dict" = none) : FnOk P w K mg base CX0 (k + 1) f fd ["net", "pair", "more"] spWith := by
  refine F.ok scWith (fun vs H Q E h => ?_) (fun cdv A outer s H vs Q E hr h => ?_)
  · obtain ⟨N, b, m, ps, ts, pl, ti, k, rfl, _⟩ := h
    rfl
  · obtain ⟨N, b, m, ps, ts, pl, ti, k, rfl, na, hb, h0, hts, hps, nd, q⟩ := h
    have hu := hu_of hr
    refine ⟨_, pss_cons (ps_set (i := 3) scWith.nd rfl (.inl rfl) (pe_callTy (call_dictT rfl (room3 hr)) (by rfl) mD (by decide +kernel) (pa_cons (pe_callTy (call_listItT rfl) (by rfl) mL (by decide +kernel)
          (pa_cons (pe_bm0 PySem.F.plainAttrs_dict PySem.F.slot_dict_items PySem.F.type_dict_items L2.DX.mt_itemsT (pe_dget hu (pv 0) pe_str (fun _ _ => rfl))) pa_nil)) pa_nil)))
      (pss_cons (ps_dput hu (pv 3) (pv 1) (pe_op op_add (pe_dget2 hu (pv 3) (pv 1) pe_int ⟨rfl, rfl, rfl, rfl⟩) (pv 2)) rfl)
      (pss_cons (ps_if (pt_cmpR op_eq (pe_dget hu (pv 3) (pv 1) (fun _ _ => rfl)) pe_int (nomark _))
        (pss_one (ps_expr (pe_bm PySem.F.plainAttrs_dict PySem.F.slot_dict_pop PySem.F.type_dict_pop (mt_popT1 (room3 hr)) (pv 3) (pa_cons (pv 1) pa_nil)))) pss_nil)
      (pss_one (ps_ret (pe_disp (pps_cons pe_str (pe_callTy call_list_of (by rfl) mL (by decide +kernel) (pa_cons (pe_dget hu (pv 0) pe_str (fun _ _ => rfl)) pa_nil)) (pps_cons pe_str (pv 3) pps_nil)) (by rfl) (by rfl) (fun z => by cases z) (by decide)))))), ?_⟩
    refine ⟨.ref N, rfl, N, .ref ti, rfl, dget_ties na, .inr (.inr (.inl ⟨rfl, .inr ⟨_, na.ti⟩⟩)), ti, tk ts, rfl, rfl, na.ti, fun vw nv => ?_⟩
    have s0 : Same H (upd H vw (L2.DX.itemsO vw ti)) := same_upd nv
    refine ⟨vw, ti, tk ts, rfl, upd_same, s0 _ _ na.ti, fun H1 l1 bs sm nl el prs => ⟨l1, bs, tk ts, rfl, el, prs, fun td ntd => ?_⟩⟩
    rw [mergeT_nil (tk_nodup nd)]
    have s1 : Same H H1 := s0.trans sm
    have s2 : Same H (upd H1 td (.dT (tk ts))) := s1.trans (same_upd ntd)
    have etd : (upd H1 td (.dT (tk ts))) td = some (.dT (tk ts)) := upd_same
    have ntd0 : H td = none := s1.free ntd
    generalize upd H1 td (.dT (tk ts)) = H2 at s2 etd ⊢
    refine ⟨.ref td, rfl, td, rfl, .inr ⟨_, .inl etd⟩, .ref b, rfl, _, DGet.t (k := kP k) etd (s2 _ _ hb), .int m, rfl, getT ts k, m, tk_get ts k, rfl, ?_⟩
    refine ⟨.ref td, rfl, .ref b, rfl, td, _, rfl, DPut.t (k := kP k) etd (s2 _ _ hb) (by rw [tk_len]; exact small1000 (by omega)), ?_⟩
    dsimp only
    rw [tk_put]
    have n3 : ∀ c o, H c = some o → c ≠ td := fun c o e => ne_of_none e ntd0
    have s3 : Same H (upd H2 td (.dT (tk (putT ts k (getT ts k + m))))) := fun c o e => by
      rw [upd_ne (n3 c o e)]
      exact s2 c o e
    have e3 : (upd H2 td (.dT (tk (putT ts k (getT ts k + m))))) td = some (.dT (tk (putT ts k (getT ts k + m)))) := upd_same
    generalize upd H2 td (.dT (tk (putT ts k (getT ts k + m)))) = H3 at s3 e3 ⊢
    have gv : valV (tk (putT ts k (getT ts k + m))) (kP k) = some (V.int (getT ts k + m)) := by
      rw [tk_val, find_put]
      rfl
    have dg : DGet H3 td (.ref b) (some (.int (getT ts k + m))) := by
      have := DGet.t (k := kP k) e3 (s3 _ _ hb)
      rw [gv] at this
      exact this
    refine ⟨.ref td, rfl, .ref b, rfl, td, _, rfl, dg, rfl, _, rfl, ?_⟩
    rw [decide_eq_false (show ¬ V.int (getT ts k + m) = V.int 0 from fun z => h0 (V.int.inj z))]
    refine iteF ?_
    refine fun p np => ⟨.ref N, rfl, N, .ref pl, rfl, dget_places (na.same (s3.trans (same_upd np))), pl, _, rfl, .inl (.inl (.inl ((s3.trans (same_upd np)) _ _ na.pl))), fun l2 nl2 => ⟨.ref td, rfl, ?_⟩⟩
    refine ⟨(same_upd nl2) _ _ upd_same, [(Sum.inr "places", .ref l2), (Sum.inr "ties", .ref td)], rfl, (show 2 ≤ 15 by decide), ?_⟩
    rw [merge2]
    have s5 : Same H3 (upd H3 p (.dK [])) := same_upd np
    have s6 : Same (upd H3 p (.dK [])) (upd (upd H3 p (.dK [])) l2 (.lst (ps.map V.str))) := same_upd nl2
    have np0 : H p = none := s3.free np
    have l2p : l2 ≠ p := (ne_of_none (o := .dK []) upd_same nl2).symm
    have nl0 : H l2 = none := (s3.trans s5).free nl2
    have tdp : td ≠ p := ne_of_none e3 np
    refine q _ p l2 td ⟨upd_same, ?_, ?_⟩ (fun c o e => ?_) np0 nl0 ntd0
    · rw [upd_ne l2p, upd_same]
    · rw [upd_ne tdp]
      exact (s5.trans s6) _ _ e3
    · rw [upd_ne (ne_of_none e np0)]
      exact (s3.trans (s5.trans s6)) c o e
end
/-! ### nets that are drawn -/
structure GoodN (ps : List Str) (ts : Ties) : Prop where
  asc : ps.Pairwise fun a b => ltS a b = true
  words : ∀ p ∈ ps, wordS p = true ∧ p.length ≤ 8 ∧ ∀ c ∈ p.cps.toList, c < 128
  two : 2 ≤ ps.length
  six : ps.length ≤ 6
  keys : ∀ e ∈ ts, e.1.1 ∈ ps ∧ e.1.2 ∈ ps ∧ ltS e.1.1 e.1.2 = true
  nodup : (ts.map (·.1)).Nodup
  pos : ∀ e ∈ ts, 1 ≤ e.2
  sum : (ts.map (·.2)).sum ≤ 22
  noq : ("q" : Str) ∉ ps
def n5 : List Str := ["a", "b", "c", "d", "e"]
def n4 : List Str := ["a", "b", "c", "d"]
def fullT : Ties := (pairsOf n4).map fun k => (k, 1)
def ringK : List (Str × Str) := [("a", "e"), ("a", "b"), ("b", "c"), ("c", "d"), ("d", "e")]
def ringT : Ties := ringK.map fun k => (k, 1)
def hubT : Ties := [(("a", "z"), 2), (("b", "z"), 1), (("c", "z"), 1), (("a", "b"), 1), (("b", "c"), 1), (("a", "c"), 1)]
def starT : Ties := (n4.map fun p => (p, ("z" : Str))).map fun k => (k, 1)
theorem good_full : GoodN n4 fullT := ⟨by decide +kernel, by decide +kernel, by decide +kernel, by decide +kernel, by decide +kernel, by decide +kernel, by decide +kernel, by decide +kernel, by decide +kernel⟩
theorem good_ring : GoodN n5 ringT := ⟨by decide +kernel, by decide +kernel, by decide +kernel, by decide +kernel, by decide +kernel, by decide +kernel, by decide +kernel, by decide +kernel, by decide +kernel⟩
theorem good_hub : GoodN ["a", "b", "c", "z"] hubT := ⟨by decide +kernel, by decide +kernel, by decide +kernel, by decide +kernel, by decide +kernel, by decide +kernel, by decide +kernel, by decide +kernel, by decide +kernel⟩
theorem good_two : GoodN ["a", "b"] [(("a", "b"), 4)] := ⟨by decide +kernel, by decide +kernel, by decide +kernel, by decide +kernel, by decide +kernel, by decide +kernel, by decide +kernel, by decide +kernel, by decide +kernel⟩
theorem good_star : GoodN ["a", "b", "c", "d", "z"] starT := ⟨by decide +kernel, by decide +kernel, by decide +kernel, by decide +kernel, by decide +kernel, by decide +kernel, by decide +kernel, by decide +kernel, by decide +kernel⟩
theorem good_path : GoodN ["a", "b", "c"] [(("a", "b"), 1), (("b", "c"), 1)] := ⟨by decide +kernel, by decide +kernel, by decide +kernel, by decide +kernel, by decide +kernel, by decide +kernel, by decide +kernel, by decide +kernel, by decide +kernel⟩
theorem good_bare : GoodN ["a", "b", "c"] [] := ⟨by decide +kernel, by decide +kernel, by decide +kernel, by decide +kernel, by decide +kernel, by decide +kernel, by decide +kernel, by decide +kernel, by decide +kernel⟩
/-- a row (places, ties) of known nets -/
structure KRow (H : Hp) (x : V) : Prop where
  ex : ∃ t pl ti ps ts, x = .ref t ∧ H t = some (.tup [.ref pl, .ref ti]) ∧ H pl = some (.lst ((ps : List Str).map V.str)) ∧ H ti = some (.dT (tk ts)) ∧ GoodN ps ts
theorem KRow.same {H H' : Hp} {x : V} (s : Same H H') (h : KRow H x) : KRow H' x := by
  obtain ⟨t, pl, ti, ps, ts, e, h1, h2, h3, g⟩ := h.ex
  exact ⟨t, pl, ti, ps, ts, e, s _ _ h1, s _ _ h2, s _ _ h3, g⟩
theorem KRow.sd {d : Addr} {H H' : Hp} {x : V} (hd : DiceAt H d) (s : Sd d H H') (h : KRow H x) : KRow H' x := by
  obtain ⟨t, pl, ti, ps, ts, e, h1, h2, h3, g⟩ := h.ex
  obtain ⟨a, b, c, hd⟩ := hd
  refine ⟨t, pl, ti, ps, ts, e, s.keep _ _ (ne_of h1 hd (fun z => nomatch z)) h1, s.keep _ _ ?_ h2, s.keep _ _ (ne_of h3 hd (fun z => nomatch z)) h3, g⟩
  refine ne_of h2 hd fun z => ?_
  injection z with z
  match ps, g.two, z with
  | p :: r, _, z => cases z
theorem scKnown : FnScope ["dice", "names", "full", "ring", "hub", "some", "star", "places", "ties", "pair", "at", "place"] ["dice"] (defScope sKnown) := ⟨rfl, rfl, rfl, by decide +kernel, rfl, by decide +kernel, by decide +kernel⟩
def spNet : Sp := fun vs H Q _ => ∃ d, vs = [.ref d] ∧ DiceAt H d ∧ ∀ H' N ps ts pl ti, Sd d H H' → NetAt H' N ps ts pl ti → GoodN ps ts → H N = none → H pl = none → H ti = none → Q (.ref N) H'
theorem PairsT.same {H H' : Hp} {ps : List Addr} {kvs : List (List Key × V)} (s : Same H H') (h : PairsT H ps kvs) : PairsT H' ps kvs := Paired.mapP h fun _ _ ⟨b, e1, e2⟩ => ⟨b, s _ _ e1, s _ _ e2⟩
theorem tk_snoc (ts : Ties) (k : Str × Str) (v : Int) : tk ts ++ [(kP k, V.int v)] = tk (ts ++ [(k, v)]) := by
  unfold tk
  rw [List.map_append]
  rfl
theorem ring_at : ∀ i : Nat, i < 5 → ∃ x y, atI (n5.map V.str) (0 + (i : Int) - 1) = some (V.str x) ∧ atI (n5.map V.str) (0 + (i : Int)) = some (V.str y) ∧ ringK[i]? = some (ordP x y)
  | 0, _ => ⟨"e", "a", by rfl, by rfl, by decide +kernel⟩
  | 1, _ => ⟨"a", "b", by rfl, by rfl, by decide +kernel⟩
  | 2, _ => ⟨"b", "c", by rfl, by rfl, by decide +kernel⟩
  | 3, _ => ⟨"c", "d", by rfl, by rfl, by decide +kernel⟩
  | 4, _ => ⟨"d", "e", by rfl, by rfl, by decide +kernel⟩
  | n + 5, h => by omega
theorem cut_n4 : cutV (n5.map V.str) none (some 4) = n4.map V.str := by rfl
theorem cut_n3 : cutV (n5.map V.str) none (some 3) = [V.str "a", V.str "b", V.str "c"] := by rfl
theorem paired_get' {α β : Type} {F : α → β → Prop} : ∀ {xs : List α} {ys : List β}, Paired F xs ys → ∀ {i : Nat} {x : α}, xs[i]? = some x → ∃ y, ys[i]? = some y ∧ F x y
  | _, _, .nil, i, x, h => by simp at h
  | _, _, .cons r t, 0, x, h => by
    cases (show _ = _ from Option.some.inj h)
    exact ⟨_, rfl, r⟩
  | _, _, .cons r t, i + 1, x, h => by
    obtain ⟨y, h1, h2⟩ := paired_get' (i := i) t (by simpa using h)
    exact ⟨y, by simpa using h1, h2⟩
/-- one more pair (key, number) at the end of the list at D -/
theorem pairs_step {H2 H' : Hp} {D t b : Addr} {cs : List Addr} {T : Ties} {k : Str × Str} {v : Int} (nD : H2 D = none) (sm : Same H2 H') (eD : H' D = some (.lst (cs.map V.ref))) (pt : PairsT H' cs (tk T))
    (hb : H' b = some (.tup [.str k.1, .str k.2])) (nt : H' t = none) :
    (upd H' t (.tup [.ref b, .int v])) D = some (.lst (cs.map V.ref)) ∧ Same H2 (upd (upd H' t (.tup [.ref b, .int v])) D (.lst (cs.map V.ref ++ [V.ref t]))) ∧
    (upd (upd H' t (.tup [.ref b, .int v])) D (.lst (cs.map V.ref ++ [V.ref t]))) D = some (.lst ((cs ++ [t]).map V.ref)) ∧
    PairsT (upd (upd H' t (.tup [.ref b, .int v])) D (.lst (cs.map V.ref ++ [V.ref t]))) (cs ++ [t]) (tk (T ++ [(k, v)])) := by
  have tD : t ≠ D := (ne_of_none eD nt).symm
  have far : ∀ c xs, H' c = some (.tup xs) → (upd (upd H' t (.tup [.ref b, .int v])) D (.lst (cs.map V.ref ++ [V.ref t]))) c = some (.tup xs) := fun c xs e => by
    rw [upd_ne (ne_of e eD (fun z => nomatch z)), upd_ne (ne_of_none e nt)]
    exact e
  refine ⟨by rw [upd_ne tD.symm]; exact eD, fun c o e => ?_, ?_, ?_⟩
  · rw [upd_ne (ne_of_none e nD), upd_ne (ne_of_none (sm _ _ e) nt)]
    exact sm _ _ e
  · rw [upd_same, List.map_append]
    rfl
  · rw [← tk_snoc]
    refine Paired.app (Paired.mapP pt fun p kv ⟨b', h1, h2⟩ => ⟨b', far _ _ h1, far _ _ h2⟩) (.cons ⟨b, ?_, far _ _ hb⟩ .nil)
    rw [upd_ne tD, upd_same]
theorem disp_same {H H2 : Hp} {p : Addr} {o u : HO} (np : H p = none) (sm : Same (upd H p u) H2) : Same H (upd H2 p o) := fun c x e => by
  rw [upd_ne (ne_of_none e np)]
  exact sm c x (by rw [upd_ne (ne_of_none e np)]; exact e)
theorem pairsT_len {H : Hp} {cs : List Addr} {T : Ties} (h : PairsT H cs (tk T)) : cs.length = T.length := by
  have := Paired.length h
  rw [tk_len] at this
  exact this
section
variable {P : Program} {w : World} {K : PySem.W.Frag} {mg : Str → Option Value} {base : Heap}
theorem ok_known {f g1 g2 g3 : Addr} {fd gd1 gd2 gd3 : FuncData} {k : Nat} (F : Fun K "_law_known_net" "_law_known_net" sKnown f fd)
    (G1 : FnOk P w K mg base CX0 (k + 1) g1 gd1 ["one", "other"] spPairL) (gk1 : PySem.W.keepIn K (.ref g1) = true) (gb1 : Binds K gd1 ["one", "other"] []) (mg1 : mg "_law_pair" = some (.ref g1))
    (G2 : FnOk P w K mg base CX0 (k + 1) g2 gd2 ["places"] (spPairsL K)) (gk2 : PySem.W.keepIn K (.ref g2) = true) (gb2 : Binds K gd2 ["places"] []) (mg2 : mg "_law_pairs" = some (.ref g2))
    (G3 : FnOk P w K mg base CX0 (k + 1) g3 gd3 ["dice", "items"] spPick) (gk3 : PySem.W.keepIn K (.ref g3) = true) (gb3 : Binds K gd3 ["dice", "items"] []) (mg3 : mg "_law_pick" = some (.ref g3))
    (mL : mg "list" = none) (mD : mg "dict" = none) (mR : mg "range" = none) : FnOk P w K mg base CX0 (k + 2) f fd ["dice"] spNet := by
  refine F.ok scKnown (fun vs H Q E h => ?_) (fun cdv A outer s H vs Q E hr h => ?_)
  · obtain ⟨d, rfl, _⟩ := h
    rfl
  · obtain ⟨d, rfl, hd, q⟩ := h
    have hu := hu_of hr
    refine ⟨_, pss_cons (ps_set (i := 1) scKnown.nd rfl (.inr rfl) (pe_lst (pa_cons pe_str (pa_cons pe_str (pa_cons pe_str (pa_cons pe_str (pa_cons pe_str pa_nil)))))))
      (C8.pss_cut (ps_set (i := 2) scKnown.nd rfl (.inl rfl) (pe_callTy (call_dictT rfl (room3 hr)) (by rfl) mD (by decide +kernel) (pa_cons (pe_lc (own := [("pair", 9)]) (g := gName 9) (tt := tYes) rfl scKnown.nd
          (pi_list (pe_call G2 hr (by rfl) mg2 gk2 gb2 .nil pass0 (pa_cons (pe_slice sl_list (pv 1) po_none (po_some pe_int)) pa_nil)))
          (blkOk_by (N := ["dice", "names", "full", "ring", "hub", "some", "star", "places", "ties", "pair", "at", "place"]) (sc := defScope sKnown) (by decide +kernel)) (fun _ _ _ _ _ => pg_name (i := 9) scKnown.nd rfl (Or.inl rfl)) (fun _ _ _ _ _ => pts_nil)
          (fun _ _ _ _ _ => pe_tup (pa_cons (pv 9) (pa_cons pe_int pa_nil)))) pa_nil)))
      (C8.pss_cut (ps_set (i := 3) scKnown.nd rfl (.inl rfl) (pe_callTy (call_dictT rfl (room3 hr)) (by rfl) mD (by decide +kernel) (pa_cons (pe_lc (own := [("at", 10)]) (g := gName 10) (tt := tYes) rfl scKnown.nd
          (pi_range1 (by rfl) mR (pa_cons pe_int pa_nil))
          (blkOk_by (N := ["dice", "names", "full", "ring", "hub", "some", "star", "places", "ties", "pair", "at", "place"]) (sc := defScope sKnown) (by decide +kernel)) (fun _ _ _ _ _ => pg_name (i := 10) scKnown.nd rfl (Or.inl rfl)) (fun _ _ _ _ _ => pts_nil)
          (fun _ _ _ _ _ => pe_tup (pa_cons (pe_call G1 hr (by rfl) mg1 gk1 gb1 .nil pass0 (pa_cons (pe_ix (ix_listK (K := K) rfl) (pv 1) (pe_op op_sub (pv 10) pe_int) (fun _ _ => rfl)) (pa_cons (pe_ix (ix_listK (K := K) rfl) (pv 1) (pv 10) (fun _ _ => rfl)) pa_nil))) (pa_cons pe_int pa_nil)))) pa_nil)))
      (C8.pss_cut (ps_set (i := 4) scKnown.nd rfl (.inl rfl) (pe_dispT (room3 hr) (pps_cons (pe_tup (pa_cons pe_str (pa_cons pe_str pa_nil))) pe_int (pps_cons (pe_tup (pa_cons pe_str (pa_cons pe_str pa_nil))) pe_int (pps_cons (pe_tup (pa_cons pe_str (pa_cons pe_str pa_nil))) pe_int
          (pps_cons (pe_tup (pa_cons pe_str (pa_cons pe_str pa_nil))) pe_int (pps_cons (pe_tup (pa_cons pe_str (pa_cons pe_str pa_nil))) pe_int (pps_cons (pe_tup (pa_cons pe_str (pa_cons pe_str pa_nil))) pe_int pps_nil)))))) (by rfl) (by rfl) (fun z => by cases z) (by decide)))
      (C8.pss_cut (ps_set (i := 5) scKnown.nd rfl (.inl rfl) (pe_lst (pa_cons (pe_tup (pa_cons (pe_slice sl_list (pv 1) po_none (po_some pe_int)) (pa_cons (pv 2) pa_nil))) (pa_cons (pe_tup (pa_cons (pv 1) (pa_cons (pv 3) pa_nil)))
          (pa_cons (pe_tup (pa_cons (pe_lst (pa_cons pe_str (pa_cons pe_str (pa_cons pe_str (pa_cons pe_str pa_nil))))) (pa_cons (pv 4) pa_nil)))
          (pa_cons (pe_tup (pa_cons (pe_lst (pa_cons pe_str (pa_cons pe_str pa_nil))) (pa_cons (pe_dispT (room3 hr) (pps_cons (pe_tup (pa_cons pe_str (pa_cons pe_str pa_nil))) pe_int pps_nil) (by rfl) (by rfl) (fun z => by cases z) (by decide)) pa_nil))) pa_nil))))))
      (C8.pss_cut (ps_set (i := 6) scKnown.nd rfl (.inl rfl) (pe_callTy (call_dictT rfl (room3 hr)) (by rfl) mD (by decide +kernel) (pa_cons (pe_lc (own := [("place", 11)]) (g := gName 11) (tt := tYes) rfl scKnown.nd
          (pi_list (pe_slice sl_list (pv 1) po_none (po_some pe_int)))
          (blkOk_by (N := ["dice", "names", "full", "ring", "hub", "some", "star", "places", "ties", "pair", "at", "place"]) (sc := defScope sKnown) (by decide +kernel)) (fun _ _ _ _ _ => pg_name (i := 11) scKnown.nd rfl (Or.inl rfl)) (fun _ _ _ _ _ => pts_nil)
          (fun _ _ _ _ _ => pe_tup (pa_cons (pe_tup (pa_cons (pv 11) (pa_cons pe_str pa_nil))) (pa_cons pe_int pa_nil)))) pa_nil)))
      (C8.pss_cut (ps_set (i := 5) scKnown.nd rfl (.inl rfl) (pe_op op_cat (pv 5) (pe_lst (pa_cons (pe_tup (pa_cons (pe_op op_cat (pe_slice sl_list (pv 1) po_none (po_some pe_int)) (pe_lst (pa_cons pe_str pa_nil))) (pa_cons (pv 6) pa_nil)))
          (pa_cons (pe_tup (pa_cons (pe_slice sl_list (pv 1) po_none (po_some pe_int)) (pa_cons (pe_dispT (room3 hr) (pps_cons (pe_tup (pa_cons pe_str (pa_cons pe_str pa_nil))) pe_int (pps_cons (pe_tup (pa_cons pe_str (pa_cons pe_str pa_nil))) pe_int pps_nil)) (by rfl) (by rfl) (fun z => by cases z) (by decide)) pa_nil)))
          (pa_cons (pe_tup (pa_cons (pe_slice sl_list (pv 1) po_none (po_some pe_int)) (pa_cons pe_dnewT pa_nil))) pa_nil))))))
      (pss_cons (ps_asg (pe_call G3 hr (by rfl) mg3 gk3 gb3 .nil pass0 (pa_cons (pv 0) (pa_cons (pv 5) pa_nil))) (pg_tup rfl (pgs_cons (pg_name (i := 7) scKnown.nd rfl (.inl rfl)) (pgs_cons (pg_name (i := 8) scKnown.nd rfl (.inl rfl)) pgs_nil))))
      (pss_one (ps_ret (pe_disp (pps_cons pe_str (pe_callTy call_list_of (by rfl) mL (by decide +kernel) (pa_cons (pv 7) pa_nil)) (pps_cons pe_str (pe_callTy (call_dictT rfl (room3 hr)) (by rfl) mD (by decide +kernel) (pa_cons (pe_callTy (call_listItT rfl) (by rfl) mL (by decide +kernel)
          (pa_cons (pe_bm0 PySem.F.plainAttrs_dict PySem.F.slot_dict_items PySem.F.type_dict_items L2.DX.mt_itemsT (pv 8)) pa_nil)) pa_nil)) pps_nil)) (by rfl) (by rfl) (fun z => by cases z) (by decide))))))))))), ?_⟩
    refine ⟨slx (n := 5) (by decide), fun nm nnm => ?_⟩
    have e1 : (upd H nm (.lst [.str "a", .str "b", .str "c", .str "d", .str "e"])) nm = some (.lst (n5.map V.str)) := upd_same
    have sm1 : Same H (upd H nm (.lst [.str "a", .str "b", .str "c", .str "d", .str "e"])) := same_upd nnm
    generalize upd H nm (.lst [.str "a", .str "b", .str "c", .str "d", .str "e"]) = H1 at e1 sm1 ⊢
    -- full
    refine ⟨fun σ' H' => ∃ a, σ' = [some (.ref d), some (.ref nm), some (.ref a), none, none, none, none, none, none, none, none, none] ∧ Same H1 H' ∧ H' a = some (.dT (tk fullT)), ?_, ?_⟩
    · refine ⟨.ref nm, rfl, 4, rfl, nm, n5.map V.str, rfl, .inl (.inl e1), fun p0 np0 => ⟨p0, n4, rfl, .inl (.inl (by rw [← cut_n4]; exact upd_same)), by decide, fun H2 l bs sm nl el ka => ⟨l, rfl, ⟨_, .inl (.inl el)⟩, fun D nD => ?_⟩⟩⟩
      have s12 : Same H1 H2 := (same_upd np0).trans sm
      refine lc_list (K := K) (a := l) (xs := bs.map V.ref) (fun i H' => ∃ cs, Same H2 H' ∧ H' D = some (.lst (cs.map V.ref)) ∧ PairsT H' cs (tk (((pairsOf n4).take i).map fun k => (k, (1 : Int)))))
        ⟨[], same_upd nD, upd_same, .nil⟩ (fun i H' _ h => ?_) (fun i x H' hx h => ?_) (fun H' h => ?_)
      · obtain ⟨_, s2, _⟩ := h
        exact .inl (.inl (s2 _ _ el))
      · obtain ⟨cs, s2, eD, pt⟩ := h
        rw [List.getElem?_map] at hx
        cases hb : bs[i]? with
        | none => rw [hb] at hx; cases hx
        | some b =>
          rw [hb] at hx
          cases hx
          obtain ⟨k, hk, eb⟩ := paired_get' ka hb
          refine ⟨rfl, .ref b, rfl, slx (n := 2) (by decide), fun t nt => ?_⟩
          obtain ⟨c1, c2, c3, c4⟩ := pairs_step (v := 1) nD s2 eD pt (s2 _ _ eb) nt
          refine ⟨cs.map V.ref, c1, ?_, cs ++ [t], c2, c3, ?_⟩
          · have := pairsT_len pt
            rw [List.length_map, List.length_take] at this
            rw [List.length_map]
            have h6 : (pairsOf n4).length = 6 := by decide +kernel
            exact small1000 (by omega)
          · rw [List.take_add_one, hk, List.map_append]
            exact c4
      · obtain ⟨cs, s2, eD, pt⟩ := h
        have hl : (bs.map V.ref).length = (pairsOf n4).length := by rw [List.length_map]; exact ka.length
        rw [hl, List.take_length] at pt
        refine ⟨D, cs, tk fullT, rfl, eD, pt, fun a na => ?_⟩
        rw [mergeT_nil (tk_nodup good_full.nodup)]
        exact ⟨a, rfl, (s12.trans s2).trans (same_upd na), upd_same⟩
    rintro σ2 H2 ⟨fu, rfl, s12, efu⟩
    -- ring
    refine ⟨fun σ' H' => ∃ a, σ' = [some (.ref d), some (.ref nm), some (.ref fu), some (.ref a), none, none, none, none, none, none, none, none] ∧ Same H2 H' ∧ H' a = some (.dT (tk ringT)), ?_, ?_⟩
    · refine ⟨5, rfl, by decide, by decide, fun D nD => lc_range (lo := 0) (n := 5) (fun i H' => ∃ cs, Same H2 H' ∧ H' D = some (.lst (cs.map V.ref)) ∧ PairsT H' cs (tk ((ringK.take i).map fun k => (k, (1 : Int)))))
        ⟨[], same_upd nD, upd_same, .nil⟩ (fun i H' hi h => ?_) (fun H' h => ?_)⟩
      · obtain ⟨cs, s2, eD, pt⟩ := h
        obtain ⟨x, y, hx, hy, hk⟩ := ring_at i hi
        have enm : H' nm = some (.lst (n5.map V.str)) := s2 _ _ (s12 _ _ e1)
        refine ⟨rfl, .ref nm, rfl, .int (0 + (i : Int)), rfl, _, 1, rfl, rfl, nm, _, _, _, rfl, rfl, .inl (.inl enm), hx, .ref nm, rfl, .int (0 + (i : Int)), rfl, nm, _, _, _, rfl, rfl, .inl (.inl enm), hy, x, y, rfl, fun b nb => ⟨slx (n := 2) (by decide), fun t nt => ?_⟩⟩
        have s3 : Same H2 (upd H' b (.tup [.str (ordP x y).1, .str (ordP x y).2])) := s2.trans (same_upd nb)
        obtain ⟨c1, c2, c3, c4⟩ := pairs_step (v := 1) nD s3 (same_upd nb _ _ eD) (pt.same (same_upd nb)) (k := ordP x y) upd_same nt
        refine ⟨cs.map V.ref, c1, ?_, cs ++ [t], c2, c3, ?_⟩
        · have := pairsT_len pt
          rw [List.length_map, List.length_take] at this
          rw [List.length_map]
          have h6 : ringK.length = 5 := rfl
          exact small1000 (by omega)
        · rw [List.take_add_one, hk, List.map_append]
          exact c4
      · obtain ⟨cs, s2, eD, pt⟩ := h
        refine ⟨D, cs, tk ringT, rfl, eD, pt, fun a na => ?_⟩
        rw [mergeT_nil (tk_nodup good_ring.nodup)]
        exact ⟨a, rfl, s2.trans (same_upd na), upd_same⟩
    rintro σ3 H3 ⟨ri, rfl, s23, eri⟩
    -- hub
    refine ⟨fun σ' H' => ∃ a, σ' = [some (.ref d), some (.ref nm), some (.ref fu), some (.ref ri), some (.ref a), none, none, none, none, none, none, none] ∧ Same H3 H' ∧ H' a = some (.dT (tk hubT)), ?_, ?_⟩
    · refine fun p np => ⟨slx (n := 2) (by decide), fun t1 n1 => ⟨slx (n := 2) (by decide), fun t2 n2 => ⟨slx (n := 2) (by decide), fun t3 n3 => ⟨slx (n := 2) (by decide), fun t4 n4' => ⟨slx (n := 2) (by decide), fun t5 n5' => ⟨slx (n := 2) (by decide), fun t6 n6 => ?_⟩⟩⟩⟩⟩⟩
      have m6 := same_upd (o := .tup [.str "a", .str "c"]) n6
      have m5 := (same_upd n5').trans m6
      have m4 := (same_upd n4').trans m5
      have m3 := (same_upd n3).trans m4
      have m2 := (same_upd n2).trans m3
      have m1 := (same_upd n1).trans m2
      have m0 := (same_upd np).trans m1
      refine ⟨m1 _ _ upd_same, tk hubT, .cons ⟨t1, rfl, m2 _ _ upd_same⟩ (.cons ⟨t2, rfl, m3 _ _ upd_same⟩ (.cons ⟨t3, rfl, m4 _ _ upd_same⟩ (.cons ⟨t4, rfl, m5 _ _ upd_same⟩ (.cons ⟨t5, rfl, m6 _ _ upd_same⟩ (.cons ⟨t6, rfl, upd_same⟩ .nil))))), by decide, ?_⟩
      rw [mergeT_nil (tk_nodup good_hub.nodup)]
      refine ⟨p, rfl, fun c o e => ?_, upd_same⟩
      rw [upd_ne (ne_of_none e np)]
      exact m0 _ _ e
    rintro σ4 H4 ⟨hu4, rfl, s34, ehu⟩
    -- some
    have enm4 : H4 nm = some (.lst (n5.map V.str)) := s34 _ _ (s23 _ _ (s12 _ _ e1))
    have efu4 : H4 fu = some (.dT (tk fullT)) := s34 _ _ (s23 _ _ efu)
    have eri4 : H4 ri = some (.dT (tk ringT)) := s34 _ _ eri
    refine ⟨fun σ' H' => ∃ L rows, σ' = [some (.ref d), some (.ref nm), some (.ref fu), some (.ref ri), some (.ref hu4), some (.ref L), none, none, none, none, none, none] ∧ Same H4 H' ∧ H' L = some (.lst rows) ∧ rows.length = 4 ∧ ∀ x ∈ rows, KRow H' x, ?_, ?_⟩
    · refine ⟨.ref nm, rfl, 4, rfl, nm, _, rfl, .inl (.inl enm4), fun q1 nq1 => ⟨.ref fu, rfl, slx (n := 2) (by decide), fun t1 n1 => ⟨.ref nm, rfl, .ref ri, rfl, slx (n := 2) (by decide), fun t2 n2 => ⟨slx (n := 4) (by decide), fun q3 nq3 => ⟨.ref hu4, rfl, slx (n := 2) (by decide), fun t3 n3 =>
        ⟨slx (n := 2) (by decide), fun q4 nq4 => fun p4 np4 => ⟨slx (n := 2) (by decide), fun k4 nk4 => ?_⟩⟩⟩⟩⟩⟩⟩
      refine ⟨(same_upd nk4) _ _ upd_same, tk [(("a", "b"), 4)], .cons ⟨k4, rfl, upd_same⟩ .nil, by decide, slx (n := 2) (by decide), fun t4 n4' => ⟨slx (n := 4) (by decide), fun L nL => ?_⟩⟩
      rw [mergeT_nil (tk_nodup good_two.nodup)] at n4' nL ⊢
      have mL := same_upd (o := .lst [.ref t1, .ref t2, .ref t3, .ref t4]) nL
      have m8 := (same_upd n4').trans mL
      have m7 := (disp_same (o := .dT (tk [(("a", "b"), 4)])) np4 (same_upd nk4)).trans m8
      have m6 := (same_upd nq4).trans m7
      have m5 := (same_upd n3).trans m6
      have m4 := (same_upd nq3).trans m5
      have m3 := (same_upd n2).trans m4
      have m2 := (same_upd n1).trans m3
      have m1 := (same_upd nq1).trans m2
      refine ⟨L, _, rfl, m1, upd_same, rfl, fun x hx => ?_⟩
      simp only [List.mem_cons, List.not_mem_nil, or_false] at hx
      rcases hx with rfl | rfl | rfl | rfl
      · exact ⟨t1, q1, fu, n4, fullT, rfl, m3 _ _ upd_same, m2 _ _ (by rw [upd_same, cut_n4]), m1 _ _ efu4, good_full⟩
      · exact ⟨t2, nm, ri, n5, ringT, rfl, m4 _ _ upd_same, m1 _ _ enm4, m1 _ _ eri4, good_ring⟩
      · exact ⟨t3, q3, hu4, ["a", "b", "c", "z"], hubT, rfl, m6 _ _ upd_same, m5 _ _ upd_same, m1 _ _ ehu, good_hub⟩
      · exact ⟨t4, q4, p4, ["a", "b"], [(("a", "b"), 4)], rfl, mL _ _ upd_same, m7 _ _ upd_same, m8 _ _ upd_same, good_two⟩
    rintro σ5 H5 ⟨L5, rows5, rfl, s45, eL5, len5, row5⟩
    have enm5 : H5 nm = some (.lst (n5.map V.str)) := s45 _ _ enm4
    -- star
    refine ⟨fun σ' H' => ∃ a, σ' = [some (.ref d), some (.ref nm), some (.ref fu), some (.ref ri), some (.ref hu4), some (.ref L5), some (.ref a), none, none, none, none, none] ∧ Same H5 H' ∧ H' a = some (.dT (tk starT)), ?_, ?_⟩
    · refine ⟨.ref nm, rfl, 4, rfl, nm, _, rfl, .inl (.inl enm5), fun q1 nq1 => ⟨q1, rfl, ⟨n4.map V.str, .inl (.inl (by rw [← cut_n4]; exact upd_same))⟩, fun D nD => ?_⟩⟩
      have sq : Same H5 (upd H5 q1 (.lst (cutV (n5.map V.str) none (some 4)))) := same_upd nq1
      have eq1 : (upd H5 q1 (.lst (cutV (n5.map V.str) none (some 4)))) q1 = some (.lst (n4.map V.str)) := by rw [upd_same, cut_n4]
      generalize upd H5 q1 (.lst (cutV (n5.map V.str) none (some 4))) = Hq at sq eq1 nD ⊢
      refine lc_list (K := K) (a := q1) (xs := n4.map V.str) (fun i H' => ∃ cs, Same Hq H' ∧ H' D = some (.lst (cs.map V.ref)) ∧ PairsT H' cs (tk (((n4.map fun p => (p, ("z" : Str))).take i).map fun k => (k, (1 : Int)))))
        ⟨[], same_upd nD, upd_same, .nil⟩ (fun i H' _ h => ?_) (fun i x H' hx h => ?_) (fun H' h => ?_)
      · obtain ⟨_, s2, _⟩ := h
        exact .inl (.inl (s2 _ _ eq1))
      · obtain ⟨cs, s2, eD, pt⟩ := h
        rw [List.getElem?_map] at hx
        cases hb : n4[i]? with
        | none => rw [hb] at hx; cases hx
        | some b =>
          rw [hb] at hx
          cases hx
          refine ⟨rfl, .str b, rfl, slx (n := 2) (by decide), fun u nu => ⟨slx (n := 2) (by decide), fun t nt => ?_⟩⟩
          have s3 : Same Hq (upd H' u (.tup [.str b, .str "z"])) := s2.trans (same_upd nu)
          obtain ⟨c1, c2, c3, c4⟩ := pairs_step (v := 1) nD s3 (same_upd nu _ _ eD) (pt.same (same_upd nu)) (k := (b, "z")) upd_same nt
          refine ⟨cs.map V.ref, c1, ?_, cs ++ [t], c2, c3, ?_⟩
          · have := pairsT_len pt
            rw [List.length_map, List.length_take] at this
            rw [List.length_map]
            have h6 : (n4.map fun p => (p, ("z" : Str))).length = 4 := rfl
            exact small1000 (by omega)
          · rw [List.take_add_one, List.getElem?_map, hb, List.map_append]
            exact c4
      · obtain ⟨cs, s2, eD, pt⟩ := h
        refine ⟨D, cs, tk starT, rfl, eD, pt, fun a na => ?_⟩
        rw [mergeT_nil (tk_nodup good_star.nodup)]
        exact ⟨a, rfl, (sq.trans s2).trans (same_upd na), upd_same⟩
    rintro σ6 H6 ⟨st, rfl, s56, est⟩
    have enm6 : H6 nm = some (.lst (n5.map V.str)) := s56 _ _ enm5
    -- some, three more
    refine ⟨fun σ' H' => ∃ L rows, σ' = [some (.ref d), some (.ref nm), some (.ref fu), some (.ref ri), some (.ref hu4), some (.ref L), some (.ref st), none, none, none, none, none] ∧ Same H6 H' ∧ H6 L = none ∧ H' L = some (.lst rows) ∧ rows.length = 7 ∧ ∀ x ∈ rows, KRow H' x, ?_, ?_⟩
    · refine ⟨.ref L5, rfl, .ref nm, rfl, 4, rfl, nm, _, rfl, .inl (.inl enm6), fun q1 nq1 => ⟨slx (n := 1) (by decide), fun u1 nu1 => ⟨q1, u1, _, _, rfl, rfl, (same_upd nu1) _ _ upd_same, upd_same, ?_, fun w1 nw1 => ⟨.ref st, rfl, slx (n := 2) (by decide), fun t1 n1 => ?_⟩⟩⟩⟩
      · rw [cut_n4]
        exact slx (n := 5) (by decide)
      have a1 := (same_upd nq1).trans ((same_upd nu1).trans ((same_upd nw1).trans (same_upd (o := .tup [.ref w1, .ref st]) n1)))
      refine ⟨.ref nm, rfl, 3, rfl, nm, _, rfl, .inl (.inl (a1 _ _ enm6)), fun q2 nq2 => fun p2 np2 => ⟨slx (n := 2) (by decide), fun k1 nk1 => ⟨slx (n := 2) (by decide), fun k2 nk2 => ?_⟩⟩⟩
      refine ⟨((same_upd nk1).trans (same_upd nk2)) _ _ upd_same, tk [(("a", "b"), 1), (("b", "c"), 1)], .cons ⟨k1, rfl, (same_upd nk2) _ _ upd_same⟩ (.cons ⟨k2, rfl, upd_same⟩ .nil), by decide, slx (n := 2) (by decide), fun t2 n2 => ?_⟩
      rw [mergeT_nil (tk_nodup good_path.nodup)] at n2 ⊢
      have b1 := disp_same (o := .dT (tk [(("a", "b"), 1), (("b", "c"), 1)])) np2 ((same_upd nk1).trans (same_upd (o := .tup [.str "b", .str "c"]) nk2))
      have a2 := a1.trans ((same_upd nq2).trans (b1.trans (same_upd (o := .tup [.ref q2, .ref p2]) n2)))
      refine ⟨.ref nm, rfl, 3, rfl, nm, _, rfl, .inl (.inl (a2 _ _ enm6)), fun q3 nq3 => fun p3 np3 => ⟨slx (n := 2) (by decide), fun t3 n3 => ⟨slx (n := 3) (by decide), fun L2 nL2 => ?_⟩⟩⟩
      have mL2 := same_upd (o := .lst [.ref t1, .ref t2, .ref t3]) nL2
      have a3 := a2.trans ((same_upd nq3).trans ((same_upd np3).trans ((same_upd n3).trans mL2)))
      refine ⟨L5, L2, rows5, _, rfl, rfl, a3 _ _ (s56 _ _ eL5), upd_same, ?_, fun L nL => ?_⟩
      · show rows5.length + 3 ≤ _
        rw [len5]
        exact slx (n := 7) (by decide)
      have mL := mL2.trans (same_upd (o := .lst (rows5 ++ [.ref t1, .ref t2, .ref t3])) nL)
      have c9 := (same_upd n3).trans mL
      have c8 := (same_upd np3).trans c9
      have c7 := (same_upd nq3).trans c8
      have c6 := (same_upd n2).trans c7
      have c5 := b1.trans c6
      have c4 := (same_upd nq2).trans c5
      have c3 := (same_upd n1).trans c4
      have c2 := (same_upd nw1).trans c3
      have c0 := (same_upd nq1).trans ((same_upd nu1).trans c2)
      refine ⟨L, _, rfl, c0, a3.free nL, upd_same, by rw [List.length_append, len5]; rfl, fun x hx => ?_⟩
      rcases List.mem_append.mp hx with hx | hx
      · exact ((row5 x hx).same s56).same c0
      simp only [List.mem_cons, List.not_mem_nil, or_false] at hx
      rcases hx with rfl | rfl | rfl
      · exact ⟨t1, w1, st, ["a", "b", "c", "d", "z"], starT, rfl, c4 _ _ upd_same, c3 _ _ (by rw [upd_same, cut_n4]; rfl), c0 _ _ est, good_star⟩
      · exact ⟨t2, q2, p2, ["a", "b", "c"], [(("a", "b"), 1), (("b", "c"), 1)], rfl, c7 _ _ upd_same, c5 _ _ (by rw [upd_same, cut_n3]; rfl), c6 _ _ upd_same, good_path⟩
      · exact ⟨t3, q3, p3, ["a", "b", "c"], [], rfl, mL _ _ upd_same, c8 _ _ (by rw [upd_same, cut_n3]; rfl), c9 _ _ upd_same, good_bare⟩
    rintro σ7 H7 ⟨L7, rows7, rfl, s67, nL7, eL7, len7, row7⟩
    have sH6 : Same H H6 := sm1.trans (s12.trans (s23.trans (s34.trans (s45.trans s56))))
    have sH7 : Same H H7 := sH6.trans s67
    obtain ⟨dx, dy, dz, hd'⟩ := hd
    have hd6 : DiceAt H6 d := ⟨dx, dy, dz, sH6 _ _ hd'⟩
    have hd7 : DiceAt H7 d := ⟨dx, dy, dz, sH7 _ _ hd'⟩
    refine ⟨.ref d, rfl, .ref L7, rfl, d, L7, rows7, rfl, hd7, eL7, (hd6.ne nL7).symm, by omega, by omega, fun v H8 hv s8 => ?_⟩
    obtain ⟨t, pl, ti, ps, ts, rfl, et, epl, eti, good⟩ := ((row7 v hv).sd hd7 s8).ex
    have sd8 : Sd d H H8 := (Sd.of_same sH7 ⟨dx, dy, dz, hd'⟩).trans s8
    refine ⟨t, _, rfl, .inl (.inl et), rfl, _, _, rfl, _, _, rfl, rfl, ?_⟩
    refine fun p np => ⟨.ref pl, rfl, pl, _, rfl, .inl (.inl (.inl ((same_upd np) _ _ epl))), fun l2 nl2 => ?_⟩
    have s9 : Same H8 (upd (upd H8 p (.dK [])) l2 (.lst (ps.map V.str))) := (same_upd np).trans (same_upd nl2)
    have s9p : Same (upd H8 p (.dK [])) (upd (upd H8 p (.dK [])) l2 (.lst (ps.map V.str))) := same_upd nl2
    have el2 : (upd (upd H8 p (.dK [])) l2 (.lst (ps.map V.str))) l2 = some (.lst (ps.map V.str)) := upd_same
    have nl2' : H8 l2 = none := (same_upd np).free nl2
    generalize upd (upd H8 p (.dK [])) l2 (.lst (ps.map V.str)) = H9 at s9 s9p el2 ⊢
    refine ⟨.ref ti, rfl, .inr (.inr (.inl ⟨rfl, .inr ⟨_, s9 _ _ eti⟩⟩)), ti, tk ts, rfl, rfl, s9 _ _ eti, fun vw nv => ⟨vw, ti, tk ts, rfl, upd_same, (same_upd nv) _ _ (s9 _ _ eti), fun H10 l1 bs sm nl el prs => ⟨l1, bs, tk ts, rfl, el, prs, fun td ntd => ?_⟩⟩⟩
    rw [mergeT_nil (tk_nodup good.nodup)]
    have s10 : Same H9 H10 := (same_upd nv).trans sm
    have s11 : Same H9 (upd H10 td (.dT (tk ts))) := s10.trans (same_upd ntd)
    refine ⟨s11 _ _ (s9p _ _ upd_same), [(Sum.inr "places", .ref l2), (Sum.inr "ties", .ref td)], rfl, (show 2 ≤ 15 by decide), ?_⟩
    rw [merge2]
    have ntd9 : H9 td = none := s10.free ntd
    have ptd : td ≠ p := (ne_of_none (s9p _ _ (upd_same (o := .dK []))) ntd9).symm
    have pl2 : l2 ≠ p := ne_of el2 (s9p _ _ (upd_same (o := .dK []))) (fun z => nomatch z)
    refine q _ p ps ts l2 td ⟨fun c o hc e => ?_, ?_⟩ ⟨upd_same, ?_, ?_⟩ good (sd8.free np) (sd8.free nl2') (sd8.free (s9.free ntd9))
    · have e8 := sd8.keep c o hc e
      rw [upd_ne (ne_of_none e8 np)]
      exact s11 _ _ (s9 _ _ e8)
    · obtain ⟨a, b, c, e8⟩ := sd8.dice
      refine ⟨a, b, c, ?_⟩
      rw [upd_ne (ne_of_none e8 np)]
      exact s11 _ _ (s9 _ _ e8)
    · rw [upd_ne pl2]
      exact s11 _ _ el2
    · rw [upd_ne ptd]
      exact upd_same
end
/-! ### nets grow tie by tie: the mathematics -/
theorem ltS_iff {x y : Str} : ltS x y = true ↔ x.cps.toList < y.cps.toList := decide_eq_true_iff
theorem ltS_irr (x : Str) : ltS x x = false := decide_eq_false (List.lt_irrefl _)
theorem ltS_trans {x y z : Str} (h : ltS x y = true) (g : ltS y z = true) : ltS x z = true := ltS_iff.mpr (List.lt_trans (ltS_iff.mp h) (ltS_iff.mp g))
theorem ltS_asymm {x y : Str} (h : ltS x y = true) : ltS y x = false := by
  cases g : ltS y x with
  | false => rfl
  | true =>
    have := ltS_trans h g
    rw [ltS_irr] at this
    cases this
theorem ltS_tri {x y : Str} (h : x ≠ y) : ltS x y = true ∨ ltS y x = true := by
  by_cases g : ltS x y = true
  · exact .inl g
  · refine .inr (ltS_iff.mpr ?_)
    have g' : ¬ x.cps.toList < y.cps.toList := fun z => g (ltS_iff.mpr z)
    rcases List.le_iff_lt_or_eq.mp (List.not_lt.mp g') with z | z
    · exact z
    · exact absurd (PySem.W.str_of_cps z.symm) h
/-- with a tie set at a pair -/
theorem putT_keys_sub (ts : Ties) (k : Str × Str) (v : Int) : ∀ e ∈ putT ts k v, e.1 = k ∧ e.2 = v ∨ e ∈ ts := by
  intro e he
  unfold putT at he
  split at he
  · obtain ⟨f, hf, rfl⟩ := List.mem_map.mp he
    by_cases h : f.1 = k
    · rw [if_pos h]
      exact .inl ⟨h, rfl⟩
    · rw [if_neg h]
      exact .inr hf
  · rcases List.mem_append.mp he with h | h
    · exact .inr h
    · rw [List.mem_singleton.mp h]
      exact .inl ⟨rfl, rfl⟩
theorem putT_nodup {ts : Ties} (k : Str × Str) (v : Int) (h : (ts.map (·.1)).Nodup) : ((putT ts k v).map (·.1)).Nodup := by
  unfold putT
  split
  · rw [List.map_map]
    have e : ((fun x : (Str × Str) × Int => x.1) ∘ fun e : (Str × Str) × Int => if e.1 = k then (e.1, v) else e) = fun x => x.1 := by
      funext e
      show (if e.1 = k then (e.1, v) else e).1 = e.1
      split <;> rfl
    rw [e]
    exact h
  · rename_i hn
    rw [List.map_append, List.nodup_append]
    refine ⟨h, by simp, fun a ha b hb => ?_⟩
    have hb' : b = k := by simpa using hb
    subst hb'
    intro e
    subst e
    obtain ⟨x, hx, e⟩ := List.mem_map.mp ha
    exact hn (List.any_eq_true.mpr ⟨x, hx, decide_eq_true e⟩)
theorem sum_put : ∀ {ts : Ties} (k : Str × Str) (m : Int), (ts.map (·.1)).Nodup → ((putT ts k (getT ts k + m)).map (·.2)).sum = (ts.map (·.2)).sum + m := by
  intro ts k m h
  unfold putT
  by_cases hn : (ts.any fun e => decide (e.1 = k)) = true
  · rw [if_pos hn]
    induction ts with
    | nil => cases hn
    | cons e r ih =>
      rw [List.map_cons, List.nodup_cons] at h
      by_cases z : e.1 = k
      · have hg : getT (e :: r) k = e.2 := by
          unfold getT
          rw [List.find?_cons, decide_eq_true z]
          rfl
        have hr : r.map (fun f => if f.1 = k then (f.1, getT (e :: r) k + m) else f) = r := by
          rw [hg]
          refine (List.map_congr_left fun f hf => ?_).trans (List.map_id r)
          rw [if_neg]
          · rfl
          · intro y
            exact h.1 (List.mem_map.mpr ⟨f, hf, by rw [y, z]⟩)
        rw [List.map_cons, hr, if_pos z, hg, List.map_cons, List.map_cons, List.sum_cons, List.sum_cons]
        omega
      · have hg : getT (e :: r) k = getT r k := by
          unfold getT
          rw [List.find?_cons, decide_eq_false z]
        have hn' : (r.any fun e => decide (e.1 = k)) = true := by
          rw [List.any_cons, decide_eq_false z, Bool.false_or] at hn
          exact hn
        have := ih h.2 hn'
        rw [hg, List.map_cons, if_neg z, List.map_cons, List.map_cons, List.sum_cons, List.sum_cons, this]
        omega
  · rw [if_neg hn]
    have hg : getT ts k = 0 := by
      unfold getT
      have : ts.find? (fun e => decide (e.1 = k)) = none := by
        rw [List.find?_eq_none]
        intro e he z
        exact hn (List.any_eq_true.mpr ⟨e, he, z⟩)
      rw [this]
      rfl
    rw [hg, List.map_append, List.sum_append]
    simp
theorem getT_nn {ts : Ties} (h : ∀ e ∈ ts, 1 ≤ e.2) (k : Str × Str) : 0 ≤ getT ts k := by
  unfold getT
  cases e : ts.find? fun e => decide (e.1 = k) with
  | none => exact Int.le_refl 0
  | some x =>
    have := h x (List.mem_of_find?_eq_some e)
    show 0 ≤ x.2
    omega
structure GoodB (n : Int) (ps : List Str) (ts : Ties) : Prop where
  keys : ∀ e ∈ ts, e.1.1 ∈ ps ∧ e.1.2 ∈ ps ∧ ltS e.1.1 e.1.2 = true
  nodup : (ts.map (·.1)).Nodup
  pos : ∀ e ∈ ts, 1 ≤ e.2
  sum : (ts.map (·.2)).sum ≤ n
theorem GoodB.put {n m : Int} {ps : List Str} {ts : Ties} {k : Str × Str} (h : GoodB n ps ts) (hk : k.1 ∈ ps ∧ k.2 ∈ ps ∧ ltS k.1 k.2 = true) (hm : 1 ≤ m) : GoodB (n + m) ps (putT ts k (getT ts k + m)) := by
  have hg := getT_nn h.pos k
  refine ⟨fun e he => ?_, putT_nodup k _ h.nodup, fun e he => ?_, ?_⟩
  · rcases putT_keys_sub ts k _ e he with ⟨e1, _⟩ | e1
    · rw [e1]
      exact hk
    · exact h.keys e e1
  · rcases putT_keys_sub ts k _ e he with ⟨_, e2⟩ | e1
    · rw [e2]
      omega
    · exact h.pos e e1
  · rw [sum_put k m h.nodup]
    have := h.sum
    omega
theorem GoodB.len {n : Int} {ps : List Str} {ts : Ties} (h : GoodB n ps ts) : (ts.length : Int) ≤ n := by
  have : ∀ {ts : Ties}, (∀ e ∈ ts, 1 ≤ e.2) → (ts.length : Int) ≤ (ts.map (·.2)).sum := by
    intro ts h
    induction ts with
    | nil => simp
    | cons e r ih =>
      have h1 := h e (List.mem_cons_self ..)
      have h2 := ih fun f hf => h f (List.mem_cons_of_mem _ hf)
      rw [List.length_cons, List.map_cons, List.sum_cons]
      omega
  have h1 := this h.pos
  have h2 := h.sum
  omega
theorem GoodB.mono {n m : Int} {ps : List Str} {ts : Ties} (h : GoodB n ps ts) (hm : n ≤ m) : GoodB m ps ts := ⟨h.keys, h.nodup, h.pos, Int.le_trans h.sum hm⟩
theorem GoodB.drop {n : Int} {ps : List Str} {ts : Ties} (h : GoodB n ps ts) (p : (Str × Str) × Int → Bool) : GoodB n ps (ts.filter p) := by
  refine ⟨fun e he => h.keys e (List.mem_filter.mp he).1, h.nodup.sublist (List.Sublist.map _ (List.filter_sublist ..)), fun e he => h.pos e (List.mem_filter.mp he).1, ?_⟩
  have : ∀ {ts : Ties}, (∀ e ∈ ts, 1 ≤ e.2) → ((ts.filter p).map (·.2)).sum ≤ (ts.map (·.2)).sum := by
    intro ts h
    induction ts with
    | nil => simp
    | cons e r ih =>
      have h1 := h e (List.mem_cons_self ..)
      have h2 := ih fun f hf => h f (List.mem_cons_of_mem _ hf)
      rw [List.filter_cons]
      split
      · rw [List.map_cons, List.map_cons, List.sum_cons, List.sum_cons]
        omega
      · rw [List.map_cons, List.sum_cons]
        omega
  exact Int.le_trans (this h.pos) h.sum
theorem mem_pairsOf {ps : List Str} {k : Str × Str} (h : k ∈ pairsOf ps) : k.1 ∈ ps ∧ k.2 ∈ ps ∧ ltS k.1 k.2 = true := by
  unfold pairsOf at h
  obtain ⟨x, hx, h⟩ := List.mem_flatMap.mp h
  obtain ⟨y, hy, rfl⟩ := List.mem_map.mp h
  obtain ⟨h1, h2⟩ := List.mem_filter.mp hy
  exact ⟨hx, h1, h2⟩
theorem ordP_ok {ps : List Str} {x y : Str} (hx : x ∈ ps) (hy : y ∈ ps) (h : x ≠ y) : (ordP x y).1 ∈ ps ∧ (ordP x y).2 ∈ ps ∧ ltS (ordP x y).1 (ordP x y).2 = true := by
  unfold ordP
  by_cases g : ltS x y = true
  · rw [if_pos g]
    exact ⟨hx, hy, g⟩
  · rw [if_neg g]
    exact ⟨hy, hx, (ltS_tri h).resolve_left g⟩
/-! ### nets that are drawn: the def -/
theorem ltCps_eq : ∀ a b : List Nat, PySem.Spec.ltCps a b = decide (a < b)
  | [], [] => rfl
  | [], _ :: _ => (decide_eq_true (List.nil_lt_cons _ _)).symm
  | _ :: _, [] => (decide_eq_false (List.not_lt_nil _)).symm
  | a :: r, b :: t => by
    show (decide (a < b) || (a == b && PySem.Spec.ltCps r t)) = _
    rw [ltCps_eq r t, Bool.eq_iff_iff]
    simp only [Bool.or_eq_true, Bool.and_eq_true, decide_eq_true_eq, beq_iff_eq, List.cons_lt_cons_iff]
theorem rising_all : ∀ (xs : List Str) (x : Str), risingS x xs = true → ∀ y ∈ xs, ltS y x = false
  | [], _, _, y, hy => by cases hy
  | z :: r, x, h, y, hy => by
    have h1 : (!PySem.Spec.ltCps z.cps.toList x.cps.toList && risingS z r) = true := h
    rw [Bool.and_eq_true, ltCps_eq] at h1
    have hz : ltS z x = false := by
      have := h1.1
      unfold ltS
      cases q : decide (z.cps.toList < x.cps.toList) with
      | false => rfl
      | true => rw [q] at this; cases this
    rcases List.mem_cons.mp hy with rfl | hy
    · exact hz
    · have hyz := rising_all r z h1.2 y hy
      cases q : ltS y x with
      | false => rfl
      | true =>
        by_cases e : z = x
        · rw [e, q] at hyz
          cases hyz
        · rcases ltS_tri e with g | g
          · rw [g] at hz
            cases hz
          · have := ltS_trans q g
            rw [this] at hyz
            cases hyz
theorem sortedS_tail {x : Str} {xs : List Str} (h : risingS x xs = true) : sortedS xs = true := by
  cases xs with
  | nil => rfl
  | cons y r =>
    have h1 : (!PySem.Spec.ltCps y.cps.toList x.cps.toList && risingS y r) = true := h
    rw [Bool.and_eq_true] at h1
    exact h1.2
theorem sorted_asc : ∀ {xs : List Str}, sortedS xs = true → xs.Nodup → xs.Pairwise fun a b => ltS a b = true
  | [], _, _ => .nil
  | x :: r, h, n => by
    rw [List.nodup_cons] at n
    refine .cons (fun y hy => ?_) (sorted_asc (sortedS_tail h) n.2)
    have := rising_all r x h y hy
    rcases ltS_tri (x := x) (y := y) (fun e => n.1 (by rw [e]; exact hy)) with g | g
    · exact g
    · rw [this] at g
      cases g
def names9n : List Str := ["a", "b", "c", "d", "e", "f", "h", "m", "z"]
theorem names9n_ok : ∀ p ∈ names9n, wordS p = true ∧ p.length ≤ 8 ∧ ∀ c ∈ p.cps.toList, c < 128 := by decide +kernel
theorem names9n_nd : names9n.Nodup := by decide +kernel
def sizes6 : List Int := [3, 4, 4, 5, 5, 6]
theorem sizes6_ok : ∀ i ∈ sizes6, 3 ≤ i ∧ i ≤ 6 := by decide
def turns7 : List Int := [0, 1, 2, 3, 4, 6, 8]
theorem turns7_ok : ∀ i ∈ turns7, 0 ≤ i ∧ i ≤ 8 := by decide
def ones4 : List Int := [1, 1, 1, 2]
theorem ones4_ok : ∀ i ∈ ones4, 1 ≤ i ∧ i ≤ 2 := by decide
theorem perm_vals {α β : Type} {f : α → β} (g : β → Option α) (hg : ∀ a, g (f a) = some a) {ys rest : List β} {xs : List α} (h : (ys ++ rest).Perm (xs.map f)) : ∃ zs qs : List α, ys = zs.map f ∧ rest = qs.map f ∧ (zs ++ qs).Perm xs := by
  have lift : ∀ (l : List β), (∀ y ∈ l, ∃ x, f x = y) → ∃ zs : List α, l = zs.map f := by
    intro l hl
    induction l with
    | nil => exact ⟨[], rfl⟩
    | cons y r ih =>
      obtain ⟨zs, e⟩ := ih fun z hz => hl z (List.mem_cons_of_mem _ hz)
      obtain ⟨x, hx⟩ := hl y (List.mem_cons_self ..)
      exact ⟨x :: zs, by rw [List.map_cons, hx, ← e]⟩
  have back : ∀ (l : List α), (l.map f).filterMap g = l := by
    intro l
    induction l with
    | nil => rfl
    | cons y r ih => rw [List.map_cons, List.filterMap_cons, hg, ih]
  have hm : ∀ y ∈ ys ++ rest, ∃ x, f x = y := fun y hy => by
    obtain ⟨x, _, e⟩ := List.mem_map.mp (h.subset hy)
    exact ⟨x, e⟩
  obtain ⟨zs, e1⟩ := lift ys fun y hy => hm y (List.mem_append_left _ hy)
  obtain ⟨qs, e2⟩ := lift rest fun y hy => hm y (List.mem_append_right _ hy)
  refine ⟨zs, qs, e1, e2, ?_⟩
  rw [e1, e2, ← List.map_append] at h
  have h2 := h.filterMap g
  rwa [back, back] at h2
def unStr : V → Option Str
  | .str s => some s
  | _ => none
theorem NetAt.sd {d : Addr} {H H' : Hp} {N : Addr} {ps : List Str} {ts : Ties} {pl ti : Addr} (hd : DiceAt H d) (s : Sd d H H') (hp : 1 ≤ ps.length) (h : NetAt H N ps ts pl ti) : NetAt H' N ps ts pl ti := by
  obtain ⟨a, b, c, hd⟩ := hd
  refine ⟨s.keep _ _ (ne_of h.net hd (fun z => nomatch z)) h.net, s.keep _ _ (ne_of h.pl hd fun z => ?_) h.pl, s.keep _ _ (ne_of h.ti hd (fun z => nomatch z)) h.ti⟩
  injection z with z
  match ps, hp, z with
  | p :: r, _, z => cases z
theorem strs_sd {d : Addr} {H H' : Hp} {p : Addr} {ps : List Str} (hd : DiceAt H d) (s : Sd d H H') (hp : 1 ≤ ps.length) (h : H p = some (.lst (ps.map V.str))) : H' p = some (.lst (ps.map V.str)) := by
  obtain ⟨a, b, c, hd⟩ := hd
  refine s.keep _ _ (ne_of h hd fun z => ?_) h
  injection z with z
  match ps, hp, z with
  | p :: r, _, z => cases z
theorem two_at {os : List Str} (nd : os.Nodup) (h2 : 2 ≤ os.length) {j : Nat} (hj : j < os.length) : ∃ x y, atI (os.map V.str) (0 + (j : Int) - 1) = some (V.str x) ∧ atI (os.map V.str) (0 + (j : Int)) = some (V.str y) ∧ x ≠ y ∧ x ∈ os ∧ y ∈ os := by
  have hy : atI (os.map V.str) (0 + (j : Int)) = some (V.str os[j]) := by
    rw [Int.zero_add]
    exact atI_nat (by rw [List.getElem?_map, List.getElem?_eq_getElem hj]; rfl)
  have far : ∀ a (ha : a < os.length), a ≠ j → os[a] ≠ os[j] := fun a ha ne e => ne ((List.getElem_inj nd).mp e)
  cases j with
  | zero =>
    refine ⟨os[os.length - 1], os[0], ?_, hy, far _ (by omega) (by omega), List.getElem_mem .., List.getElem_mem ..⟩
    have h0 : ixN (os.map V.str).length (0 + ((0 : Nat) : Int) - 1) = some (os.length - 1) := by
      rw [List.length_map]
      unfold ixN
      rw [if_neg (by omega), if_pos (by omega)]
      congr 1
      omega
    unfold atI
    rw [h0]
    show (os.map V.str)[os.length - 1]? = _
    rw [List.getElem?_map, List.getElem?_eq_getElem (by omega)]
    rfl
  | succ j =>
    refine ⟨os[j], os[j + 1], ?_, hy, far _ (by omega) (by omega), List.getElem_mem .., List.getElem_mem ..⟩
    have : (0 + ((j + 1 : Nat) : Int) - 1) = (j : Int) := by omega
    rw [this]
    exact atI_nat (by rw [List.getElem?_map, List.getElem?_eq_getElem (by omega)]; rfl)
theorem good_nil {n : Int} {ps : List Str} (h : 0 ≤ n) : GoodB n ps [] := ⟨fun e he => (nomatch he), .nil, fun e he => (nomatch he), h⟩
theorem pairsOf_pos {ps : List Str} (asc : ps.Pairwise fun a b => ltS a b = true) (h : 2 ≤ ps.length) : 0 < (pairsOf ps).length := by
  match ps, asc, h with
  | x :: y :: r, asc, _ =>
    have hxy : ltS x y = true := (List.pairwise_cons.mp asc).1 y (List.mem_cons_self ..)
    have : (x, y) ∈ pairsOf (x :: y :: r) := by
      unfold pairsOf
      refine List.mem_flatMap.mpr ⟨x, List.mem_cons_self .., List.mem_map.mpr ⟨y, List.mem_filter.mpr ⟨List.mem_cons_of_mem _ (List.mem_cons_self ..), hxy⟩, rfl⟩⟩
    exact List.length_pos_of_mem this
theorem scNetL : FnScope ["dice", "way", "size", "places", "net", "order", "at", "pairs", "turn"] ["dice"] (defScope sNetL) := ⟨rfl, rfl, rfl, by decide +kernel, rfl, by decide +kernel, by decide +kernel⟩
section
variable {P : Program} {w : World} {K : PySem.W.Frag} {mg : Str → Option Value} {base : Heap}
theorem ok_net {f g0 g1 g2 g3 g4 g5 g6 : Addr} {fd gd0 gd1 gd2 gd3 gd4 gd5 gd6 : FuncData} {k : Nat} (F : Fun K "_law_net" "_law_net" sNetL f fd)
    (G0 : FnOk P w K mg base CX0 (k + 2) g0 gd0 ["dice", "total"] spRoll) (gk0 : PySem.W.keepIn K (.ref g0) = true) (gb0 : Binds K gd0 ["dice", "total"] []) (mg0 : mg "_law_roll" = some (.ref g0))
    (G1 : FnOk P w K mg base CX0 (k + 2) g1 gd1 ["one", "other"] spPairL) (gk1 : PySem.W.keepIn K (.ref g1) = true) (gb1 : Binds K gd1 ["one", "other"] []) (mg1 : mg "_law_pair" = some (.ref g1))
    (G2 : FnOk P w K mg base CX0 (k + 2) g2 gd2 ["places"] (spPairsL K)) (gk2 : PySem.W.keepIn K (.ref g2) = true) (gb2 : Binds K gd2 ["places"] []) (mg2 : mg "_law_pairs" = some (.ref g2))
    (G3 : FnOk P w K mg base CX0 (k + 2) g3 gd3 ["dice", "items"] spPick) (gk3 : PySem.W.keepIn K (.ref g3) = true) (gb3 : Binds K gd3 ["dice", "items"] []) (mg3 : mg "_law_pick" = some (.ref g3))
    (G4 : FnOk P w K mg base CX0 (k + 2) g4 gd4 ["dice", "items", "size"] (spSome K)) (gk4 : PySem.W.keepIn K (.ref g4) = true) (gb4 : Binds K gd4 ["dice", "items", "size"] []) (mg4 : mg "_law_some" = some (.ref g4))
    (G5 : FnOk P w K mg base CX0 (k + 2) g5 gd5 ["net", "pair", "more"] spWith) (gk5 : PySem.W.keepIn K (.ref g5) = true) (gb5 : Binds K gd5 ["net", "pair", "more"] []) (mg5 : mg "_law_with" = some (.ref g5))
    (G6 : FnOk P w K mg base CX0 (k + 2) g6 gd6 ["dice"] spNet) (gk6 : PySem.W.keepIn K (.ref g6) = true) (gb6 : Binds K gd6 ["dice"] []) (mg6 : mg "_law_known_net" = some (.ref g6))
    (mS : mg "sorted" = none) (mR : mg "range" = none) (ml : mg "len" = none) : FnOk P w K mg base CX0 (k + 3) f fd ["dice"] spNet := by
  refine F.ok scNetL (fun vs H Q E h => ?_) (fun cdv A outer s H vs Q E hr h => ?_)
  · obtain ⟨d, rfl, _⟩ := h
    rfl
  · obtain ⟨d, rfl, hd, q⟩ := h
    have hu := hu_of hr
    refine ⟨_, pss_cons (ps_set (i := 1) scNetL.nd rfl (.inl rfl) (pe_call G0 hr (by rfl) mg0 gk0 gb0 .nil pass0 (pa_cons (pv 0) (pa_cons pe_int pa_nil))))
      (pss_cons (ps_if (pt_cmpR op_eq (pv 1) pe_int (nomark _)) (pss_one (ps_ret (pe_call G6 hr (by rfl) mg6 gk6 gb6 .nil pass0 (pa_cons (pv 0) pa_nil)))) pss_nil)
      (pss_cons (ps_set (i := 2) scNetL.nd rfl (.inl rfl) (pe_call G3 hr (by rfl) mg3 gk3 gb3 .nil pass0 (pa_cons (pv 0) (pa_cons (pe_lst (pa_cons pe_int (pa_cons pe_int (pa_cons pe_int (pa_cons pe_int (pa_cons pe_int (pa_cons pe_int pa_nil))))))) pa_nil))))
      (pss_cons (ps_set (i := 3) scNetL.nd rfl (.inl rfl) (pe_callB cr_sortedS (by rfl) mS (by decide +kernel) (pa_cons (pe_call G4 hr (by rfl) mg4 gk4 gb4 .nil pass0 (pa_cons (pv 0) (pa_cons (pe_lst (pa_cons pe_str (pa_cons pe_str (pa_cons pe_str (pa_cons pe_str (pa_cons pe_str
          (pa_cons pe_str (pa_cons pe_str (pa_cons pe_str (pa_cons pe_str pa_nil)))))))))) (pa_cons (pv 2) pa_nil)))) pa_nil)))
      (pss_cons (ps_set (i := 4) scNetL.nd rfl (.inl rfl) (pe_disp (pps_cons pe_str (pv 3) (pps_cons pe_str pe_dnewT pps_nil)) (by rfl) (by rfl) (fun z => by cases z) (by decide)))
      (C8.pss_cut (ps_if (pt_cmpR op_gt (pv 1) pe_int (nomark _))
        (pss_cons (ps_set (i := 5) scNetL.nd rfl (.inl rfl) (pe_call G4 hr (by rfl) mg4 gk4 gb4 .nil pass0 (pa_cons (pv 0) (pa_cons (pv 3) (pa_cons (pv 2) pa_nil)))))
        (pss_one (ps_for PassesOwn.never rfl (pi_range1 (by rfl) mR (pa_cons (pv 2) pa_nil)) (pg_name (i := 6) scNetL.nd rfl (.inl rfl))
          (pss_one (ps_set (i := 4) scNetL.nd rfl (.inl rfl) (pe_call G5 hr (by rfl) mg5 gk5 gb5 .nil pass0 (pa_cons (pv 4) (pa_cons (pe_call G1 hr (by rfl) mg1 gk1 gb1 .nil pass0 (pa_cons (pe_ix ix_list (pv 5) (pe_op op_sub (pv 6) pe_int) (fun _ _ => rfl)) (pa_cons (pe_ix ix_list (pv 5) (pv 6) (fun _ _ => rfl)) pa_nil))) (pa_cons pe_int pa_nil))))))))) pss_nil)
      (pss_cons (ps_set (i := 7) scNetL.nd rfl (.inl rfl) (pe_call G2 hr (by rfl) mg2 gk2 gb2 .nil pass0 (pa_cons (pv 3) pa_nil)))
      (C8.pss_cut (ps_for PassesOwn.never rfl (pi_range1 (by rfl) mR (pa_cons (pe_call G3 hr (by rfl) mg3 gk3 gb3 .nil pass0 (pa_cons (pv 0) (pa_cons (pe_lst (pa_cons pe_int (pa_cons pe_int (pa_cons pe_int (pa_cons pe_int (pa_cons pe_int (pa_cons pe_int (pa_cons pe_int pa_nil)))))))) pa_nil))) pa_nil)) (pg_name (i := 8) scNetL.nd rfl (.inl rfl))
          (pss_one (ps_set (i := 4) scNetL.nd rfl (.inl rfl) (pe_call G5 hr (by rfl) mg5 gk5 gb5 .nil pass0 (pa_cons (pv 4) (pa_cons (pe_call G3 hr (by rfl) mg3 gk3 gb3 .nil pass0 (pa_cons (pv 0) (pa_cons (pv 7) pa_nil)))
            (pa_cons (pe_call G3 hr (by rfl) mg3 gk3 gb3 .nil pass0 (pa_cons (pv 0) (pa_cons (pe_lst (pa_cons pe_int (pa_cons pe_int (pa_cons pe_int (pa_cons pe_int pa_nil))))) pa_nil))) pa_nil)))))))
      (C8.pss_cut (ps_if (PW.pt (pw_and (pt_cmpR op_eq (pe_call G0 hr (by rfl) mg0 gk0 gb0 .nil pass0 (pa_cons (pv 0) (pa_cons pe_int pa_nil))) pe_int (nomark _))
            (pw_and1 (pt_cmpR op_gt (pe_callB call_len_dT (by rfl) ml PySem.boot_len (pa_cons (pe_dget hu (pv 4) pe_str (fun _ _ => rfl)) pa_nil)) pe_int (nomark _)))))
          (pss_one (ps_expr (pe_bm PySem.F.plainAttrs_dict PySem.F.slot_dict_pop PySem.F.type_dict_pop (mt_popT1 (room3 hr)) (pe_dget hu (pv 4) pe_str (fun _ _ => rfl))
            (pa_cons (pe_call G3 hr (by rfl) mg3 gk3 gb3 .nil pass0 (pa_cons (pv 0) (pa_cons (pe_callB (call_sortedT rfl (room80 hr)) (by rfl) mS (by decide +kernel) (pa_cons (pe_dget hu (pv 4) pe_str (fun _ _ => rfl)) pa_nil)) pa_nil))) pa_nil)))) pss_nil)
      (pss_one (ps_ret (pv 4))))))))))), ?_⟩
    refine ⟨.ref d, rfl, d, 8, rfl, hd, by decide, by decide, fun r x y z r0 r1 => ?_⟩
    have sd0 : Sd d H (upd H d (.lst [.int x, .int y, .int z])) := sd_put x y z
    generalize upd H d (.lst [.int x, .int y, .int z]) = H0 at sd0 ⊢
    refine ⟨.int r, rfl, rfl, _, rfl, ?_⟩
    by_cases r00 : r = 0
    · rw [decide_eq_true (show V.int r = V.int 0 by rw [r00])]
      refine iteT ?_
      exact ⟨.ref d, rfl, d, rfl, sd0.dice, fun H' N ps ts pl ti s na good n1 n2 n3 => q H' N ps ts pl ti (sd0.trans s) na good (sd0.free n1) (sd0.free n2) (sd0.free n3)⟩
    rw [decide_eq_false (show ¬ V.int r = V.int 0 from fun z => r00 (V.int.inj z))]
    refine iteF ?_
    refine ⟨.ref d, rfl, slx (n := 6) (by decide), fun M nM => ⟨d, M, _, rfl, (sd_new sd0.dice nM).dice, upd_same, (sd0.dice.ne nM).symm, by decide, by decide, fun v H1 hv s1 => ?_⟩⟩
    have sd1 : Sd d H H1 := (sd0.trans (sd_new sd0.dice nM)).trans s1
    obtain ⟨i, hi, rfl⟩ : ∃ i, i ∈ sizes6 ∧ v = V.int i := by
      obtain ⟨i, hi, e⟩ := List.mem_map.mp (show v ∈ sizes6.map V.int from hv)
      exact ⟨i, hi, e.symm⟩
    obtain ⟨hi1, hi2⟩ := sizes6_ok i hi
    refine ⟨.ref d, rfl, slx (n := 9) (by decide), fun N0 nN0 => ⟨.int i, rfl, d, N0, i, names9n.map V.str, rfl, (sd_new sd1.dice nN0).dice, .inl (.inl upd_same), by omega, by omega, by decide, fun D ys rest H2 pm hl nD eD s2 => ?_⟩⟩
    have sd2 : Sd d H H2 := (sd1.trans (sd_new sd1.dice nN0)).trans s2
    obtain ⟨zs, qs, rfl, rfl, pm'⟩ := perm_vals unStr (fun _ => rfl) pm
    have hzl : zs.length = i.toNat := by
      rw [List.length_map, List.length_map] at hl
      have h9 : names9n.length = 9 := rfl
      omega
    refine ⟨D, zs, rfl, .inl (.inl eD), by omega, fun ps S pmS srt nS => ?_⟩
    have zsN : zs.Nodup := (List.nodup_append.mp (pm'.nodup_iff.mpr names9n_nd)).1
    have psN : ps.Nodup := pmS.nodup_iff.mpr zsN
    have asc := sorted_asc srt psN
    have wd : ∀ p ∈ ps, wordS p = true ∧ p.length ≤ 8 ∧ ∀ c ∈ p.cps.toList, c < 128 := fun p hp => names9n_ok p (pm'.subset (List.mem_append_left _ (pmS.subset hp)))
    have plen : ps.length = i.toNat := by rw [pmS.length_eq, hzl]
    have noq : ("q" : Str) ∉ ps := fun z => absurd (pm'.subset (List.mem_append_left _ (pmS.subset z))) (by decide +kernel)
    have sd3 : Sd d H (upd H2 S (.lst (ps.map V.str))) := sd2.trans (sd_new sd2.dice nS)
    have eS3 : (upd H2 S (.lst (ps.map V.str))) S = some (.lst (ps.map V.str)) := upd_same
    have nS0 : H S = none := sd2.free nS
    generalize upd H2 S (.lst (ps.map V.str)) = H3 at sd3 eS3 ⊢
    refine fun N nN => ⟨.ref S, rfl, fun T nT => ?_⟩
    refine ⟨(same_upd nT) _ _ upd_same, [(Sum.inr "places", .ref S), (Sum.inr "ties", .ref T)], rfl, (show 2 ≤ 15 by decide), ?_⟩
    rw [merge2]
    have nN0 : H N = none := sd3.free nN
    have nT3 : H3 T = none := (same_upd nN).free nT
    have nT0 : H T = none := sd3.free nT3
    have nNT : N ≠ T := ne_of_none upd_same nT
    have na4 : NetAt (upd (upd (upd H3 N (.dK [])) T (.dT [])) N (.dK [(Sum.inr "places", .ref S), (Sum.inr "ties", .ref T)])) N ps [] S T := ⟨upd_same, by
      rw [upd_ne (ne_of_none eS3 nN), upd_ne (ne_of_none eS3 nT3), upd_ne (ne_of_none eS3 nN)]
      exact eS3, by
      rw [upd_ne nNT.symm, upd_same]
      rfl⟩
    have sd4 : Sd d H (upd (upd (upd H3 N (.dK [])) T (.dT [])) N (.dK [(Sum.inr "places", .ref S), (Sum.inr "ties", .ref T)])) := sd3.then_same (disp_same nN (same_upd nT))
    have eS4 : (upd (upd (upd H3 N (.dK [])) T (.dT [])) N (.dK [(Sum.inr "places", .ref S), (Sum.inr "ties", .ref T)])) S = some (.lst (ps.map V.str)) := na4.pl
    generalize upd (upd (upd H3 N (.dK [])) T (.dT [])) N (.dK [(Sum.inr "places", .ref S), (Sum.inr "ties", .ref T)]) = H4 at na4 sd4 eS4 ⊢
    have p2 : 1 ≤ ps.length := by omega
    refine ⟨fun σ' H' => ∃ N ts pl ti y5 y6, σ' = [some (.ref d), some (.int r), some (.int i), some (.ref S), some (.ref N), y5, y6, none, none] ∧ Sd d H H' ∧ NetAt H' N ps ts pl ti ∧ GoodB 6 ps ts ∧ H N = none ∧ H pl = none ∧ H ti = none ∧ H' S = some (.lst (ps.map V.str)), ?_, ?_⟩
    · refine ⟨.int r, rfl, _, _, rfl, rfl, _, rfl, ?_⟩
      by_cases r2 : 1 < r
      · rw [decide_eq_true r2]
        refine iteT ?_
        refine ⟨.ref d, rfl, .ref S, rfl, .int i, rfl, d, S, i, _, rfl, sd4.dice, .inl (.inl eS4), by omega, by omega, by rw [List.length_map]; omega, fun O ys rest H5 pm hl nO eO s5 => ?_⟩
        obtain ⟨os, qs, rfl, rfl, pm5⟩ := perm_vals unStr (fun _ => rfl) pm
        have ol : os.length = i.toNat := by
          rw [List.length_map, List.length_map] at hl
          omega
        have osN : os.Nodup := (List.nodup_append.mp (pm5.nodup_iff.mpr psN)).1
        have osm : ∀ o ∈ os, o ∈ ps := fun o ho => pm5.subset (List.mem_append_left _ ho)
        have sd5 : Sd d H H5 := sd4.trans s5
        have na5 := na4.sd sd4.dice s5 p2
        have eS5 := strs_sd sd4.dice s5 p2 eS4
        refine ⟨.int i, rfl, i, rfl, by omega, by omega, for_range (lo := 0) (n := i.toNat) (fun j σ' H' => ∃ N ts pl ti y6, σ' = [some (.ref d), some (.int r), some (.int i), some (.ref S), some (.ref N), some (.ref O), y6, none, none] ∧ Sd d H H' ∧ NetAt H' N ps ts pl ti ∧ GoodB j ps ts ∧ H N = none ∧ H pl = none ∧ H ti = none ∧ H' S = some (.lst (ps.map V.str)) ∧ H' O = some (.lst (os.map V.str)))
          ⟨N, [], S, T, none, rfl, sd5, na5, good_nil (Int.le_refl 0), nN0, nS0, nT0, eS5, eO⟩ (fun j σ' H' hj h => ?_) (fun σ' H' h => ?_)⟩
        · obtain ⟨N', ts, pl, ti, y6, rfl, sd', na', good, n1, n2, n3, eS', eO'⟩ := h
          obtain ⟨x, y, hx, hy, hxy, xm, ym⟩ := two_at osN (show 2 ≤ os.length by omega) (show j < os.length by omega)
          have ok := ordP_ok (osm x xm) (osm y ym) hxy
          have hn := getT_nn good.pos (ordP x y)
          have hl := good.len
          refine ⟨.ref N', rfl, .ref O, rfl, .int (0 + (j : Int)), rfl, _, 1, rfl, rfl, O, _, _, _, rfl, rfl, .inl (.inl eO'), hx, .ref O, rfl, .int (0 + (j : Int)), rfl, O, _, _, _, rfl, rfl, .inl (.inl eO'), hy, x, y, rfl, fun b nb => ?_⟩
          refine ⟨N', b, 1, ps, ts, pl, ti, ordP x y, rfl, na'.same (same_upd nb), upd_same, by omega, by omega, by omega, good.nodup, fun H'' N'' pl' ti' na'' sm m1 m2 m3 => ?_⟩
          have sm' := (same_upd (o := .tup [.str (ordP x y).1, .str (ordP x y).2]) nb).trans sm
          exact ⟨N'', _, pl', ti', _, rfl, sd'.then_same sm', na'', good.put ok (Int.le_refl 1), sd'.free ((same_upd nb).free m1), sd'.free ((same_upd nb).free m2), sd'.free ((same_upd nb).free m3), sm' _ _ eS', sm' _ _ eO'⟩
        · obtain ⟨N', ts, pl, ti, y6, rfl, sd', na', good, n1, n2, n3, eS', eO'⟩ := h
          exact ⟨N', ts, pl, ti, _, y6, rfl, sd', na', good.mono (by omega), n1, n2, n3, eS'⟩
      · rw [decide_eq_false r2]
        refine iteF ?_
        exact ⟨N, [], S, T, none, none, rfl, sd4, na4, good_nil (by decide), nN0, nS0, nT0, eS4⟩
    rintro σ5 H5 ⟨N5, ts5, pl5, ti5, y5, y6, rfl, sd5, na5, good5, nN5, npl5, nti5, eS5⟩
    refine ⟨.ref S, rfl, S, ps, rfl, .inl (.inl eS5), by omega, fun H6 l bs sm6 nl el6 ka6 => ?_⟩
    have sd6 : Sd d H H6 := sd5.then_same sm6
    have na6 := na5.same sm6
    have ld : l ≠ d := (sd5.dice.ne nl).symm
    have blen : bs.length = (pairsOf ps).length := Paired.length ka6
    have b0 := pairsOf_pos asc (by omega)
    have b1 : bs.length ≤ 36 := by
      rw [blen]
      have h1 : (pairsOf ps).length ≤ ps.length * ps.length := pairsOf_len ps ps
      have h2 : ps.length * ps.length ≤ 6 * 6 := Nat.mul_le_mul (by omega) (by omega)
      omega
    refine ⟨fun σ' H' => ∃ N ts pl ti y5 y6 y7 y8, σ' = [some (.ref d), some (.int r), some (.int i), some (.ref S), some (.ref N), y5, y6, y7, y8] ∧ Sd d H H' ∧ NetAt H' N ps ts pl ti ∧ GoodB 22 ps ts ∧ H N = none ∧ H pl = none ∧ H ti = none, ?_, ?_⟩
    · refine ⟨.ref d, rfl, slx (n := 7) (by decide), fun M nM => ⟨d, M, _, rfl, (sd_new sd6.dice nM).dice, upd_same, (sd6.dice.ne nM).symm, by decide, by decide, fun v H7 hv s7 => ?_⟩⟩
      have s67 : Sd d H6 H7 := (sd_new sd6.dice nM).trans s7
      obtain ⟨c, hc, rfl⟩ : ∃ c, c ∈ turns7 ∧ v = V.int c := by
        obtain ⟨c, hc, e⟩ := List.mem_map.mp (show v ∈ turns7.map V.int from hv)
        exact ⟨c, hc, e.symm⟩
      obtain ⟨hc1, hc2⟩ := turns7_ok c hc
      refine ⟨c, rfl, by omega, by omega, for_range (lo := 0) (n := c.toNat) (fun j σ' H' => ∃ N ts pl ti y8, σ' = [some (.ref d), some (.int r), some (.int i), some (.ref S), some (.ref N), y5, y6, some (.ref l), y8] ∧ Sd d H6 H' ∧ NetAt H' N ps ts pl ti ∧ GoodB (6 + 2 * j) ps ts ∧ H N = none ∧ H pl = none ∧ H ti = none)
        ⟨N5, ts5, pl5, ti5, none, rfl, s67, na6.sd sd6.dice s67 p2, good5.mono (by omega), nN5, npl5, nti5⟩ (fun j σ' H' hj h => ?_) (fun σ' H' h => ?_)⟩
      · obtain ⟨N', ts, pl, ti, y8, rfl, sd', na', good, n1, n2, n3⟩ := h
        refine ⟨.ref N', rfl, .ref d, rfl, .ref l, rfl, d, l, _, rfl, sd'.dice, sd'.keep _ _ ld el6, ld, by rw [List.length_map]; omega, by rw [List.length_map]; omega, fun v H8 hv s8 => ?_⟩
        obtain ⟨b, k, rfl, hb, hk⟩ : ∃ b k, v = V.ref b ∧ H6 b = some (.tup [.str (k : Str × Str).1, .str k.2]) ∧ k ∈ pairsOf ps := by
          obtain ⟨b, hb, e⟩ := List.mem_map.mp hv
          obtain ⟨n, hn⟩ := List.mem_iff_getElem?.mp hb
          obtain ⟨k, hk, e2⟩ := paired_get' ka6 hn
          exact ⟨b, k, e.symm, e2, List.mem_of_getElem? hk⟩
        have s8' : Sd d H6 H8 := sd'.trans s8
        refine ⟨.ref d, rfl, slx (n := 4) (by decide), fun M2 nM2 => ⟨d, M2, _, rfl, (sd_new s8'.dice nM2).dice, upd_same, (s8'.dice.ne nM2).symm, by decide, by decide, fun v H9 hv s9 => ?_⟩⟩
        obtain ⟨m, hm, rfl⟩ : ∃ c, c ∈ ones4 ∧ v = V.int c := by
          obtain ⟨c, hc, e⟩ := List.mem_map.mp (show v ∈ ones4.map V.int from hv)
          exact ⟨c, hc, e.symm⟩
        obtain ⟨hm1, hm2⟩ := ones4_ok m hm
        have s9' : Sd d H8 H9 := (sd_new s8'.dice nM2).trans s9
        have s69 : Sd d H6 H9 := s8'.trans s9'
        have hn := getT_nn good.pos k
        have hl := good.len
        have eb9 : H9 b = some (.tup [.str k.1, .str k.2]) := by
          obtain ⟨d1, d2, d3, ed⟩ := sd6.dice
          exact s69.keep _ _ (ne_of hb ed (fun z => nomatch z)) hb
        have na9 := na'.sd sd'.dice (s8.trans s9') p2
        refine ⟨N', b, m, ps, ts, pl, ti, k, rfl, na9, eb9, by omega, by omega, by omega, good.nodup, fun H'' N'' pl' ti' na'' sm m1 m2 m3 => ?_⟩
        exact ⟨N'', _, pl', ti', _, rfl, s69.then_same sm, na'', (good.put (mem_pairsOf hk) hm1).mono (by omega), (sd6.trans s69).free m1, (sd6.trans s69).free m2, (sd6.trans s69).free m3⟩
      · obtain ⟨N', ts, pl, ti, y8, rfl, sd', na', good, n1, n2, n3⟩ := h
        exact ⟨N', ts, pl, ti, _, _, _, y8, rfl, sd6.trans sd', na', good.mono (by omega), n1, n2, n3⟩
    rintro σ6 H9 ⟨N6, ts6, pl6, ti6, x5, x6, x7, x8, rfl, sd9, na9, good6, nN6, npl6, nti6⟩
    refine ⟨fun σ' H' => ∃ N ts pl ti y5 y6 y7 y8, σ' = [some (.ref d), some (.int r), some (.int i), some (.ref S), some (.ref N), y5, y6, y7, y8] ∧ Sd d H H' ∧ NetAt H' N ps ts pl ti ∧ GoodB 22 ps ts ∧ H N = none ∧ H pl = none ∧ H ti = none, ?_, ?_⟩
    · refine ⟨.ref d, rfl, d, 4, rfl, sd9.dice, by decide, by decide, fun r4 x y z r40 r41 => ?_⟩
      have sd9' : Sd d H9 (upd H9 d (.lst [.int x, .int y, .int z])) := sd_put x y z
      have naA := na9.sd sd9.dice sd9' p2
      have sdA := sd9.trans sd9'
      generalize upd H9 d (.lst [.int x, .int y, .int z]) = HA at sd9' naA sdA ⊢
      refine ⟨rfl, _, rfl, ?_⟩
      by_cases r44 : r4 = 0
      · rw [decide_eq_true (show V.int r4 = V.int 0 by rw [r44])]
        refine iteT ?_
        refine ⟨.ref N6, rfl, N6, .ref ti6, rfl, dget_ties naA, ti6, tk ts6, rfl, naA.ti, _, _, rfl, rfl, _, rfl, ?_⟩
        rw [tk_len]
        by_cases hz : (0 : Int) < ((ts6.length : Nat) : Int)
        · rw [decide_eq_true hz]
          refine iteT ?_
          refine ⟨.ref N6, rfl, N6, .ref ti6, rfl, dget_ties naA, .inr (.inr (.inl ⟨rfl, .inr ⟨_, naA.ti⟩⟩)), .ref d, rfl, .ref N6, rfl, N6, .ref ti6, rfl, dget_ties naA, ti6, tk ts6, ts6.map (·.1), rfl, .inl naA.ti, tk_keys ts6, fun p bs np ka => ?_⟩
          have kl : bs.length = ts6.length := by rw [Paired.length ka, List.length_mergeSort, List.length_map]
          have tl := good6.len
          refine ⟨d, p, _, rfl, (sd_new sdA.dice np).dice, upd_same, (sdA.dice.ne np).symm, by rw [List.length_map]; omega, by rw [List.length_map]; omega, fun v HB hv sB => ?_⟩
          have sAB : Sd d HA HB := (sd_new sdA.dice np).trans sB
          obtain ⟨b, k, rfl, hb, hk⟩ : ∃ b k, v = V.ref b ∧ HA b = some (.tup [.str (k : Str × Str).1, .str k.2]) ∧ k ∈ ts6.map (·.1) := by
            obtain ⟨b, hb, e⟩ := List.mem_map.mp hv
            obtain ⟨n, hn⟩ := List.mem_iff_getElem?.mp hb
            obtain ⟨k, hk, e2⟩ := paired_get' ka hn
            exact ⟨b, k, e.symm, e2, List.mem_mergeSort.mp (List.mem_of_getElem? hk)⟩
          obtain ⟨d1, d2, d3, ed⟩ := sdA.dice
          have hbB : HB b = some (.tup [.str k.1, .str k.2]) := sAB.keep _ _ (ne_of hb ed (fun z => nomatch z)) hb
          have naB := naA.sd sdA.dice sAB p2
          obtain ⟨e, he, ek⟩ := List.mem_map.mp hk
          have ev : ∃ v, valV (tk ts6) (kP k) = some v := by
            rw [tk_val]
            cases ef : ts6.find? fun e => decide (e.1 = k) with
            | none => exact absurd (decide_eq_true ek) (List.find?_eq_none.mp ef e he)
            | some e' => exact ⟨_, rfl⟩
          obtain ⟨v0, ev⟩ := ev
          refine ⟨ti6, tk ts6, kP k, b, v0, rfl, rfl, naB.ti, hbB, ev, ?_⟩
          rw [tk_drop]
          have sdB := sdA.trans sAB
          obtain ⟨f1, f2, f3, ed2⟩ := sdB.dice
          have dti : d ≠ ti6 := ne_of ed2 naB.ti (fun z => nomatch z)
          refine ⟨N6, ts6.filter fun e => decide (e.1 ≠ k), pl6, ti6, _, _, _, _, rfl, ⟨fun c o hc h => ?_, ⟨f1, f2, f3, ?_⟩⟩, ⟨?_, ?_, upd_same⟩, good6.drop _, nN6, npl6, nti6⟩
          · rw [upd_ne (ne_of_none h nti6)]
            exact sdB.keep c o hc h
          · rw [upd_ne dti]
            exact ed2
          · rw [upd_ne (ne_of naB.net naB.ti (fun z => nomatch z))]
            exact naB.net
          · rw [upd_ne (ne_of naB.pl naB.ti (fun z => nomatch z))]
            exact naB.pl
        · rw [decide_eq_false hz]
          refine iteF ?_
          exact ⟨N6, ts6, pl6, ti6, _, _, _, _, rfl, sdA, naA, good6, nN6, npl6, nti6⟩
      · rw [decide_eq_false (show ¬ V.int r4 = V.int 0 from fun z => r44 (V.int.inj z))]
        refine iteF ?_
        exact ⟨N6, ts6, pl6, ti6, _, _, _, _, rfl, sdA, naA, good6, nN6, npl6, nti6⟩
    rintro σ7 H10 ⟨N7, ts7, pl7, ti7, x5, x6, x7, x8, rfl, sd10, na10, good7, nN7, npl7, nti7⟩
    exact ⟨.ref N7, rfl, q H10 N7 ps ts7 pl7 ti7 sd10 na10 ⟨asc, wd, by omega, by omega, good7.keys, good7.nodup, good7.pos, good7.sum, noq⟩ nN7 npl7 nti7⟩
end
/-! ### set(t) of a tuple of keys, and its length -/
theorem nodup_snoc {κ : Type} {xs : List κ} {z : κ} : (xs ++ [z]).Nodup ↔ xs.Nodup ∧ z ∉ xs := by
  rw [List.nodup_append]
  constructor
  · intro ⟨h1, _, h3⟩
    exact ⟨h1, fun hz => h3 z hz z (List.mem_singleton.mpr rfl) rfl⟩
  · intro ⟨h1, h2⟩
    refine ⟨h1, List.nodup_cons.mpr ⟨(fun h => nomatch h), List.nodup_nil⟩, fun a ha b hb e => ?_⟩
    rw [List.mem_singleton.mp hb] at e
    exact h2 (e ▸ ha)
def hasK (ks : List Key) (j : Key) : Bool := ks.any fun k => decide (k = j)
theorem hasK_iff {ks : List Key} {j : Key} : hasK ks j = true ↔ j ∈ ks := by
  unfold hasK
  rw [List.any_eq_true]
  constructor
  · rintro ⟨k, hk, e⟩
    rw [← of_decide_eq_true e]
    exact hk
  · intro h
    exact ⟨j, h, decide_eq_true rfl⟩
theorem setOf_congr {P : Program} {w : World} {h : Heap} {a : Addr} {S S' : Key → Bool} {n : Nat} (x : h.SetOf (mixKind P w) a S n) (e : ∀ k, S k = S' k) : h.SetOf (mixKind P w) a S' n := by
  obtain rfl : S = S' := funext e
  exact x
section
variable {P : Program} {w : World} {A : Around} {E : Value → Shared → Prop} {s : Shared}
theorem set_loop_keys {I : Addr} {fp wr : List Addr} {G : Array GenState → Array GenState → Prop} {n : Nat} {Pv : Nat → Value → Prop} {St : Nat → Shared → Prop} {R : Result → Shared → Prop}
    (W : WalksS P w A.in1 I fp wr G n Pv St) (S : Addr) (hSf : S ∉ fp) (ks : List Key) (hn : n = ks.length) (hb : ks.length + 1 < scanBound)
    (hval : ∀ i v, Pv i v → ∃ k, ks[i]? = some k ∧ (mixKind P w).is k v = true ∧ v.scannable = true) :
    ∀ (k i : Nat) (s : Shared), n - i = k → i ≤ n → St i s → (∃ c, c ≤ i ∧ (c = i ↔ (ks.take i).Nodup) ∧ s.heap.SetOf (mixKind P w) S (hasK (ks.take i)) c) →
      (∀ s' c, Moved (S :: wr) G s s' → c ≤ n → (c = n ↔ ks.Nodup) → s'.heap.SetOf (mixKind P w) S (hasK ks) c → R (.ok (.ret .none)) s') →
      codeAny (model P w) A (.builtin "set.update.loop" ⟨[.ref S, .ref I], []⟩) R s := by
  have hSw : S ∉ wr := fun h => hSf (W.sub _ h)
  have hsub : ∀ b ∈ wr, b ∈ S :: wr := fun b hb => List.mem_cons_of_mem _ hb
  intro k
  induction k with
  | zero =>
    intro i s hk hi hst ⟨c, hc, hcn, hS⟩ hR
    obtain rfl : i = n := by omega
    refine codeAny_builtin PyProof.Rows.F.entry_set_update_loop ?_
    rw [Around.under_plainId PyProof.Rows.F.plain_set_update_loop _]
    show wpAny _ A.in1 (pyNext (.ref I) >>= _) _ _ s
    refine wpAny_bind (W.done s _ _ hst fun s' hm => ?_)
    show wpAny _ A.in1 (ret Value.none) _ _ s'
    have e : ks.take i = ks := List.take_of_length_le (by omega)
    rw [e] at hS hcn
    exact wpAny_pure (hR s' c (hm.mono hsub) hc hcn (setOf_at hS fun o e => hm.heap S o hSw e))
  | succ k ih =>
    intro i s hk hi hst ⟨c, hc, hcn, hS⟩ hR
    have hlt : i < n := by omega
    refine codeAny_builtin PyProof.Rows.F.entry_set_update_loop ?_
    rw [Around.under_plainId PyProof.Rows.F.plain_set_update_loop _]
    show wpAny _ A.in1 (pyNext (.ref I) >>= _) _ _ s
    refine wpAny_bind (W.item i s _ _ hlt hst fun v s' hP hst' hm => ?_)
    obtain ⟨z, hz, his, hsc⟩ := hval i v hP
    have hS' : s'.heap.SetOf (mixKind P w) S (hasK (ks.take i)) c := setOf_at hS fun o e => hm.heap S o hSw e
    show wpAny _ A.in1 (holding [v] (setAdd S v) >>= _) _ _ s'
    refine wpAny_bind (wpAny_holding ?_)
    unfold setAdd
    refine wpAny_holding ?_
    refine wpAny_bind ((mixKind P w).pyHash (k := z) his ?_)
    refine wpAny_setAddHashed_of (knd := mixKind P w) (s := { s' with toks := s'.toks + 1 }) his hsc hS' (by omega) fun h' hsb hS2 => ?_
    have et : ks.take (i + 1) = ks.take i ++ [z] := by
      rw [List.take_add_one, hz]
      rfl
    have hS3 : h'.SetOf (mixKind P w) S (hasK (ks.take (i + 1))) (if hasK (ks.take i) z = true then c else c + 1) := setOf_congr hS2 fun j => by
      rw [et]
      unfold hasK
      rw [List.any_append]
      simp [eq_comm]
    have hc3 : (if hasK (ks.take i) z = true then c else c + 1) ≤ i + 1 ∧ ((if hasK (ks.take i) z = true then c else c + 1) = i + 1 ↔ (ks.take (i + 1)).Nodup) := by
      rw [et, nodup_snoc]
      by_cases hm : z ∈ ks.take i
      · rw [if_pos (hasK_iff.mpr hm)]
        exact ⟨by omega, fun e => by omega, fun ⟨_, h⟩ => absurd hm h⟩
      · rw [if_neg fun h => hm (hasK_iff.mp h)]
        refine ⟨by omega, fun e => ⟨hcn.mp (by omega), hm⟩, fun ⟨h, _⟩ => ?_⟩
        have := hcn.mpr h
        omega
    refine wpAny_pure ⟨plainId_quiet PyProof.Rows.F.plain_set_update_loop _, ih (i + 1) _ (by omega) hlt (W.frame _ s' _ _ hst' (Nat.le_succ _) fun b hb o e => ?_) ⟨_, hc3.1, hc3.2, hS3⟩ fun s'' c2 hm'' hc'' hcn'' hS'' => ?_⟩
    · rw [hsb.2 b (fun h : b = S => hSf (by rw [← h]; exact hb))]
      exact e
    · refine hR s'' c2 (Moved.trans W.gtrans ((hm.mono hsub).then_heap (Nat.le_succ _) fun b o hb e => ?_) hm'') hc'' hcn'' hS''
      rw [hsb.2 b (fun h : b = S => hb (by rw [h]; exact List.mem_cons_self))]
      exact e
end
section
variable {P : Program} {w : World} {A : Around} {E : Value → Shared → Prop} {s : Shared}
/-- the empty set that set.__new__ lays -/
def set0 (w : World) : Obj := { cls := .type "set", dict := none, data := .set #[] 0 (.fresh 0 0 (!w.params.followText "set-order")) }
set_option maxRecDepth 100000 in
set_option maxHeartbeats 3200000 in
theorem call_set_by {a : Value} {Q : Value → Shared → Prop}
    (hnext : wpAny (model P w) A.in1.in1 (Builtin.«set.__init__» ⟨[.ref s.heap.objs.size, a], []⟩)
      (fun fin s' => match fin with
        | .done f => wants (fun r s₂ => r = .none ∧ Q (.ref s.heap.objs.size) s₂) E (.ok f) s'
        | .again c' => c'.quiet = true ∧ codeAny (model P w) A.in1 c' (wants (fun r s₂ => r = .none ∧ Q (.ref s.heap.objs.size) s₂) E) s')
      (fun e s' => wants (fun r s₂ => r = .none ∧ Q (.ref s.heap.objs.size) s₂) E (.error e) s') { s with heap := s.heap.push (set0 w) }) :
    wpAny (model P w) A (call (.type "set") [a]) Q E s := by
  obtain ⟨c, tl, hmro⟩ := F.called_set.mro
  have hmade := F.called_set.made
  have hsub := F.called_set.sub
  refine wpAny_call (codeAny_of_tree ?_)
  show wpAny _ _ (callAny (.type "set") _) _ _ _
  refine wpAny_pure ⟨Code.quiet_builtin _ (by decide +kernel), codeAny_builtin F.entry_type_call ?_⟩
  rw [Around.under_plain (weight_type_call_type "set" [a] []) rfl]
  have h1 := F.called_set.notType
  have h2 := F.called_set.canCreate
  have hct := F.typeCall_set_1 a
  repeat (any_goals (first | assumption | wp_step))
  refine codeAny_mono (code_set_led1 a (E := E) (Q₁ := fun obj s₁ => obj = .ref s.heap.objs.size ∧ s₁ = { s with heap := s.heap.push (set0 w) }) ⟨rfl, rfl⟩) fun r s₁ hr => ?_
  cases r with
  | error e => exact hr
  | ok fl =>
    cases fl with
    | ret obj =>
      obtain ⟨rfl, rfl⟩ := hr
      have hT : Shared.TypeIs { s with heap := s.heap.push (set0 w) } (.ref s.heap.objs.size) "set" := ⟨_, Heap.get?_push_size _ rfl, rfl⟩
      have hli := F.called_set.init.lookup
      have hbi := F.called_set.init.bind (.ref s.heap.objs.size)
      repeat (any_goals (first | assumption | wp_step))
      refine codeAny_mono (codeAny_call_builtin F.called_set.init.plain F.entry_set_init (check_set_init_1 hT hnext)) fun r₂ s₂ hr₂ => ?_
      cases r₂ with
      | error e => exact hr₂
      | ok fl₂ =>
        cases fl₂ with
        | ret r =>
          obtain ⟨rfl, hq⟩ := hr₂
          repeat (any_goals (first | assumption | wp_step))
        | _ => exact hr₂.elim
    | _ => exact hr.elim
end
section
variable {P : Program} {w : World} {A : Around} {E : Value → Shared → Prop} {s : Shared}
theorem call_set_tupK {l : Addr} {items : Array Value} (ks : List Key) {Q : Value → Shared → Prop} (hh : A.handled = none) (hl : s.heap.IsTuple l items) (hit : Vals (ks.map kV) items.toList) (hb : ks.length + 1 < scanBound)
    (h : ∀ (h' : Heap) (tk c : Nat), h'.SetOf (mixKind P w) s.heap.objs.size (hasK ks) c → c ≤ ks.length → (c = ks.length ↔ ks.Nodup) → (∀ b o, s.heap.get? b = some o → h'.get? b = some o) → Q (.ref s.heap.objs.size) { s with heap := h', toks := tk }) :
    wpAny (model P w) A (call (.type "set") [.ref l]) Q E s := by
  have hisz : items.size = ks.length := by
    have q := hit.length
    rw [List.length_map, Array.length_toList] at q
    exact q.symm
  refine call_set_by ?_
  have hS : (s.heap.push (set0 w)).get? s.heap.objs.size = some (set0 w) := Heap.get?_push_size _ rfl
  obtain ⟨ol, hol, hcl, nl, hdl⟩ := hl
  obtain ⟨ocls, odict, odata, oslots⟩ := ol
  simp only at hcl hdl
  subst hcl; subst hdl
  have hol' : (s.heap.push (set0 w)).get? l = some { cls := .type "tuple", dict := odict, data := .seq items nl, slots := oslots } := Heap.get?_push_of_some _ hol
  have hsls := F.sub_tuple_set
  have hslf := F.sub_tuple_frozenset
  have hne : (Value.type "tuple" == Value.type "dict") = false := by decide
  have hl1 : (s.heap.push (set0 w)).IsTuple l items := ⟨_, hol', rfl, nl, rfl⟩
  have hlS : l < s.heap.objs.size := Heap.lt_size hol
  have hval : ∀ (i : Nat) (v : Value), items[i]? = some v → ∃ k, ks[i]? = some k ∧ (mixKind P w).is k v = true ∧ v.scannable = true := fun i v hv => by
    have hi : i < ks.length := by
      rw [← hisz]
      exact (Array.getElem?_eq_some_iff.mp hv).1
    obtain ⟨u, hu, r⟩ := hit.get (i := i) (x := kV ks[i]) (by rw [List.getElem?_map, List.getElem?_eq_getElem hi]; rfl)
    rw [Array.getElem?_toList, hv] at hu
    cases hu
    exact ⟨ks[i], List.getElem?_eq_getElem hi, kV_is r, key_scan r⟩
  unfold Builtin.«set.__init__» noKeywords Builtin.Frozenset.updateFrom
  generalize hPI : pyIter = PI
  wp_walk
  subst hPI
  refine wpAny_pyIter_tuple hl1 ?_
  refine wpAny_bind (wpAny_runValue ?_)
  have hh3 : A.in1.in1.in1.handled = none := by simp [hh]
  have hz : (s.heap.push (set0 w)).objs.size = s.heap.objs.size + 1 := Heap.size_push ..
  have hneI : l ≠ (s.heap.push (set0 w)).objs.size := by
    rw [hz]
    exact Nat.ne_of_lt (Nat.lt_succ_of_lt hlS)
  have hSf : s.heap.objs.size ∉ [(s.heap.push (set0 w)).objs.size, l] := by
    rw [hz]
    simp only [List.mem_cons, List.mem_singleton, List.not_mem_nil, or_false, not_or]
    exact ⟨Nat.ne_of_lt (Nat.lt_succ_self _), Nat.ne_of_gt hlS⟩
  refine set_loop_keys ((Walks.tuple hh3 _ l hneI items).toS) s.heap.objs.size hSf ks hisz hb hval (items.size - 0) 0 _ (by omega) (Nat.zero_le _)
    ⟨⟨_, Heap.get?_push_size _ rfl, rfl, rfl⟩, (hl1.push _)⟩ ⟨0, Nat.le_refl 0, ⟨fun _ => by rw [List.take_zero]; exact List.nodup_nil, fun _ => rfl⟩, _, #[], 0, _, Heap.get?_push_of_some _ hS, ⟨rfl, rfl, rfl⟩, rfl, (fun e he => by simp at he), (fun k => by simp [hasK]), (by decide), (by rfl), rfl⟩ ?_
  intro s' c' hm hc' hcn hS'
  obtain ⟨h', g2, d', tk', os'⟩ := s'
  obtain rfl : g2 = s.gens := hm.gens
  obtain rfl : d' = s.drawn := hm.drawn
  obtain rfl : os' = s.os := hm.os
  refine wpAny_pure ?_
  show wpAny _ _ (ret Value.none) _ _ _
  rw [hisz] at hc' hcn
  refine wpAny_pure ⟨rfl, h h' tk' c' hS' hc' hcn fun b o e => ?_⟩
  have hb0 : b < s.heap.objs.size := Heap.lt_size e
  refine hm.heap b o ?_ (Heap.get?_push_of_some _ (Heap.get?_push_of_some _ e))
  rw [hz]
  simp only [List.mem_cons, List.mem_singleton, List.not_mem_nil, or_false, not_or]
  exact ⟨Nat.ne_of_lt hb0, Nat.ne_of_lt (Nat.lt_succ_of_lt hb0)⟩
end
section
variable {X : Cx}
/-- set(t) of a tuple of keys -/
theorem call_setTupK (hc : X.calm = true) : CallR X (.type "set") (fun xs H Q => ∃ (t : Addr) (ks : List Key), xs = [.ref t] ∧ SqT X.K H t (ks.map kV) ∧ ks.length < 1000 ∧
    ∀ (p : Addr) (c : Nat), H p = none → c ≤ ks.length → (c = ks.length ↔ ks.Nodup) → Q (.ref p) (upd H p (SetK X.prog X.w p (hasK ks) c))) := by
  intro pins s σ H xs us Q I r h
  obtain ⟨t, ks, rfl, ht, hl, q⟩ := h
  obtain ⟨u, rfl, rx⟩ := vals1 r
  cases (show u = Value.ref t from rx)
  obtain ⟨its, rv, ⟨o, e, hcl, n, hd⟩, hz⟩ := I.tuple ht
  have hf : H s.heap.objs.size = none := I.hok.fresh (Nat.le_refl _)
  have hsb : scanBound = 4096 := rfl
  refine call_set_tupK ks (I.ok.hd hc) ⟨o, e, hcl, n, hd⟩ rv (by omega) fun h' tk c hS hcl hcn hk => ?_
  exact ⟨.ref s.heap.objs.size, upd H s.heap.objs.size (SetK X.prog X.w s.heap.objs.size (hasK ks) c), I.laid (t' := tk) hk (Nat.le_refl _) (setK_new hS), rfl, q _ c hf hcl hcn⟩
/-- len of it -/
theorem call_lenSetK : CallR X (.builtin "len") (fun xs H Q => ∃ (a : Addr) (S : Key → Bool) (n : Nat), xs = [.ref a] ∧ H a = some (SetK X.prog X.w a S n) ∧ Q (.int (n : Int)) H) := by
  intro pins s σ H xs us Q I r h
  obtain ⟨a, S, n, rfl, ha, q⟩ := h
  obtain ⟨u, rfl, rx⟩ := vals1 r
  cases (show u = Value.ref a from rx)
  obtain ⟨o, es, ep, tb, ho, hex, hd, hel, hmem, hb, hf, hn⟩ := setK_get I ha
  subst hn
  have h4 : es.size < 4096 := hb
  refine call_len_set ho hex hd hf (by omega) ?_
  exact ⟨.int _, H, I.tok _, ⟨_, rfl⟩, q⟩
end
/-! ### places that a net can have -/
theorem scArePl : FnScope ["value", "place"] ["value"] (defScope sArePlaces) := ⟨rfl, rfl, rfl, by decide +kernel, rfl, by decide +kernel, by decide +kernel⟩
def placesB (ps : List Str) : Bool := decide (1 ≤ ps.length) && (decide (ps.length ≤ 9) && (ps.all wordS && decide ps.Nodup))
def spArePl (K : PySem.W.Frag) : Sp := fun vs H Q _ => ∃ (t : Addr) (ps : List Str), vs = [.ref t] ∧ H t = some (.tup (ps.map V.str)) ∧ ps.length < 900 ∧ (∀ p ∈ ps, okStr p) ∧ ∀ H', Same H H' → Q (.bl (placesB ps)) H'
section
variable {P : Program} {w : World} {K : PySem.W.Frag} {mg : Str → Option Value} {base : Heap}
theorem ok_arePl {f g : Addr} {fd gd : FuncData} {k : Nat} {t9 : Tok} (F : Fun K "_are_places" "_are_places" sArePlaces f fd)
    (G : FnOk P w K mg base CX0 k g gd ["value"] (spWord K)) (gk : PySem.W.keepIn K (.ref g) = true) (gb : Binds K gd ["value"] []) (mgW : mg "is_word" = some (.ref g))
    (ml : mg "len" = none) (mi : mg "isinstance" = none) (mt : mg "tuple" = none) (mA : mg "all" = none) (mS : mg "set" = none) (mM : mg "MAX_PLACES" = some (.int 9 t9)) :
    FnOk P w K mg base CX0 (k + 1) f fd ["value"] (spArePl K) := by
  refine F.ok scArePl (fun vs H Q E h => ?_) (fun cdv A outer s H vs Q E hr h => ?_)
  · obtain ⟨t, ps, rfl, _⟩ := h
    rfl
  · obtain ⟨t, ps, rfl, ht, hl, ho, q⟩ := h
    refine ⟨_, pss_one (ps_ret (pe_and (pe_callB call_isi (by rfl) mi (by decide +kernel) (pa_cons (pv 0) (pa_cons (pe_bltn (v := .ty "tuple") (by rfl) mt (by decide +kernel) rfl) pa_nil)))
      (pe_and (pe_chain op_le op_le pe_int (pe_callB call_len_seq (by rfl) ml PySem.boot_len (pa_cons (pv 0) pa_nil)) (pe_glob (v := .int 9) rfl mM ⟨_, rfl⟩))
      (pe_and (pe_callB (cr_all rfl) (by rfl) mA (by decide +kernel) (pa_cons (pe_lc (own := [("place", 1)]) (g := gName 1) (tt := tYes) rfl scArePl.nd (pi_tup (pv 0))
        (blkOk_by (N := ["value", "place"]) (sc := defScope sArePlaces) (by decide +kernel)) (fun _ _ _ _ _ => pg_name (i := 1) scArePl.nd rfl (Or.inl rfl)) (fun _ _ _ _ _ => pts_nil)
        (fun _ _ _ _ _ => pe_call G hr (by rfl) mgW gk gb .nil pass0 (pa_cons (pv 1) pa_nil))) pa_nil))
      (pe_one (pe_cmpR op_eq (pe_callB call_lenSetK (by rfl) ml PySem.boot_len (pa_cons (pe_callTy (call_setTupK rfl) (by rfl) mS (by decide +kernel) (pa_cons (pv 0) pa_nil)) pa_nil)) (pe_callB call_len_seq (by rfl) ml PySem.boot_len (pa_cons (pv 0) pa_nil)) (nomark _))))))), ?_⟩
    refine ⟨.ref t, rfl, .ref t, .ty "tuple", _, .type "tuple", true, rfl, .ty "tuple", .base (.tup ht), kit_ty (by decide +kernel), true, rfl, iteT ?_⟩
    have hln : (ps.map V.str).length = ps.length := List.length_map ..
    refine ⟨.ref t, rfl, t, _, rfl, .inr (.inl (.inl ht)), 1, _, rfl, rfl, _, rfl, ite2 (fun e1 => ?_) (fun e1 => ?_)⟩
    · have h1 : 1 ≤ ps.length := by
        have := of_decide_eq_true e1
        rw [hln] at this
        omega
      refine ⟨_, 9, rfl, rfl, _, rfl, ite2 (fun e2 => ?_) (fun e2 => ?_)⟩
      · have h2 : ps.length ≤ 9 := by
          have := of_decide_eq_true e2
          rw [hln] at this
          omega
        refine ⟨.ref t, rfl, t, rfl, ⟨_, .inl (.inl ht)⟩, fun D nD => lc_tup (K := K) (a := t) (xs := ps.map V.str) (fun i H' => H' D = some (.lst ((ps.take i).map fun p => V.bl (wordS p))) ∧ Same H H') ⟨upd_same, same_upd nD⟩ (fun i H' _ hP => .inl (.inl (hP.2 _ _ ht))) (fun i x H' hx hP => ?_) (fun H' hP => ?_)⟩
        · obtain ⟨eD, sm⟩ := hP
          rw [List.getElem?_map] at hx
          cases hp : ps[i]? with
          | none =>
            rw [hp] at hx
            cases hx
          | some p =>
            rw [hp] at hx
            cases hx
            refine ⟨rfl, .str p, rfl, .str p, rfl, (Dv.str (ho p (List.mem_of_getElem? hp))).tv, fun H2 s2 => ⟨_, s2 _ _ eD, ?_, ?_, ?_⟩⟩
            · rw [List.length_map, List.length_take]
              exact small1000 (by omega)
            · rw [upd_same, List.take_add_one, hp, List.map_append]
              rfl
            · intro b o hb
              rw [upd_ne (ne_of_none hb nD)]
              exact s2 _ _ (sm b o hb)
        · obtain ⟨eD, sm⟩ := hP
          rw [List.length_map, List.take_of_length_le (Nat.le_refl _)] at eD
          refine ⟨D, ps.map wordS, rfl, .inl (.inl (by rw [List.map_map]; exact eD)), ?_⟩
          have ea : (ps.map wordS).all id = ps.all wordS := by
            rw [List.all_map]
            rfl
          have hb : placesB ps = (ps.all wordS && decide ps.Nodup) := by
            unfold placesB
            rw [decide_eq_true h1, decide_eq_true h2, Bool.true_and, Bool.true_and]
          rw [ea]
          refine ⟨_, rfl, ite2 (fun e3 => ?_) (fun e3 => ?_)⟩
          · have ek : (ps.map (Sum.inr : Str → Key)).map kV = ps.map V.str := by
              rw [List.map_map]
              rfl
            have kl : (ps.map (Sum.inr : Str → Key)).length = ps.length := List.length_map ..
            refine ⟨.ref t, rfl, t, ps.map Sum.inr, rfl, .inl (.inl (by rw [ek]; exact sm _ _ ht)), by omega, fun p c np hc hcn => ?_⟩
            refine ⟨p, _, c, rfl, upd_same, .ref t, rfl, t, _, rfl, .inr (.inl (.inl ((same_upd np) _ _ (sm _ _ ht)))), rfl, ?_⟩
            have en : decide (V.int (c : Int) = V.int (((ps.map V.str).length : Nat) : Int)) = decide ps.Nodup := by
              have inj : (ps.map (Sum.inr : Str → Key)).Nodup ↔ ps.Nodup := ⟨fun h => List.Pairwise.of_map (S := fun a b => a ≠ b) _ (fun a b n e => n (by rw [e])) h, fun h => map_nodup (fun a b e => by injection e) h⟩
              rw [kl, inj] at hcn
              rw [hln]
              by_cases hd : ps.Nodup
              · rw [decide_eq_true hd, decide_eq_true (by rw [hcn.mpr hd])]
              · rw [decide_eq_false hd, decide_eq_false fun z => hd (hcn.mp (by have := V.int.inj z; omega))]
            rw [en]
            have := q _ (sm.trans (same_upd (o := SetK P w p (hasK (ps.map Sum.inr)) c) np))
            rw [hb, e3, Bool.true_and] at this
            exact this
          · have := q _ sm
            rw [hb, Bool.eq_false_iff.mpr e3, Bool.false_and] at this
            exact this
      · have h2 : ¬ ps.length ≤ 9 := fun h => e2 (decide_eq_true (by rw [hln]; omega))
        have ew : placesB ps = false := by
          unfold placesB
          rw [decide_eq_false h2, Bool.false_and, Bool.and_false]
        rw [ew] at q
        exact q H (Same.refl H)
    · have h1 : ¬ 1 ≤ ps.length := fun h => e1 (decide_eq_true (by rw [hln]; omega))
      have ew : placesB ps = false := by
        unfold placesB
        rw [decide_eq_false h1, Bool.false_and]
      rw [ew] at q
      exact ⟨false, rfl, iteF (q H (Same.refl H))⟩
end
/-! ### integers and pairs -/
def topInt : Int := 10 ^ (60 : Int).toNat
def intB : V → Bool
  | .int i => decide ((if i < 0 then -i else i) < topInt)
  | _ => false
def ltB : V → V → Bool
  | .str x, .str y => decide (x.cps.toList < y.cps.toList)
  | _, _ => false
/-- a value that is no tuple -/
inductive Nt (H : Hp) : V → Prop where
  | non : Nt H .non
  | bl (b : Bool) : Nt H (.bl b)
  | int (i : Int) : Nt H (.int i)
  | str (z : Str) : Nt H (.str z)
  | lst {a : Addr} {xs : List V} (e : H a = some (.lst xs)) : Nt H (.ref a)
  | dK {a : Addr} {kvs : List (Key × V)} (e : H a = some (.dK kvs)) : Nt H (.ref a)
inductive PairV (H : Hp) : V → Bool → Prop where
  | no {v : V} (h : Nt H v) : PairV H v false
  | len {t : Addr} {xs : List V} (e : H t = some (.tup xs)) (h : xs.length ≠ 2) : PairV H (.ref t) false
  | two {t : Addr} {x y : V} {b : Bool} (e : H t = some (.tup [x, y])) (dx : Dv H x) (dy : Dv H y) (h : (wordB x && (wordB y && ltB x y)) = b) : PairV H (.ref t) b
/-- but for the list at L, which is a list still, all stands -/
structure Kl (L : Addr) (H H' : Hp) : Prop where
  keep : ∀ b o, b ≠ L → H b = some o → H' b = some o
  one : ∃ xs, H L = some (.lst xs)
  two : ∃ xs, H' L = some (.lst xs)
theorem Kl.ne {L t : Addr} {H H' : Hp} {xs : List V} (k : Kl L H H') (e : H t = some (.tup xs)) : t ≠ L := fun z => by
  obtain ⟨ys, h⟩ := k.one
  rw [z, h] at e
  cases e
theorem Kl.of_same {L : Addr} {H H' : Hp} (e : ∃ xs, H L = some (.lst xs)) (s : Same H H') : Kl L H H' := by
  obtain ⟨xs, h⟩ := e
  exact ⟨fun b o _ q => s b o q, ⟨_, h⟩, ⟨_, s _ _ h⟩⟩
theorem Kl.trans {L : Addr} {H H1 H2 : Hp} (a : Kl L H H1) (b : Kl L H1 H2) : Kl L H H2 := ⟨fun c o hc h => b.keep c o hc (a.keep c o hc h), a.one, b.two⟩
theorem Nt.same {H H' : Hp} {v : V} (s : Same H H') (h : Nt H v) : Nt H' v := by
  cases h with
  | non => exact .non
  | bl b => exact .bl b
  | int i => exact .int i
  | str z => exact .str z
  | lst e => exact .lst (s _ _ e)
  | dK e => exact .dK (s _ _ e)
theorem PairV.same {H H' : Hp} {v : V} {b : Bool} (s : Same H H') (h : PairV H v b) : PairV H' v b := by
  cases h with
  | no h => exact .no (h.same s)
  | len e h => exact .len (s _ _ e) h
  | two e dx dy h => exact .two (s _ _ e) (dx.same s) (dy.same s) h
theorem Nt.ty {K : PySem.W.Frag} {H : Hp} {v : V} (h : Nt H v) : ∃ t, TyX K H v t ∧ PySem.W.kitOne K t (.type "tuple") = some false := by
  cases h with
  | non => exact ⟨_, .base .non, kit_ty (by decide +kernel)⟩
  | bl b => exact ⟨_, .base (.bl b), kit_ty (by decide +kernel)⟩
  | int i => exact ⟨_, .base (.int i), kit_ty (by decide +kernel)⟩
  | str z => exact ⟨_, .base (.str z), kit_ty (by decide +kernel)⟩
  | lst e => exact ⟨_, .base (.lst e), kit_ty (by decide +kernel)⟩
  | dK e => exact ⟨_, .base (.dK e), kit_ty (by decide +kernel)⟩
def isIntV : V → Bool
  | .int _ => true
  | .bl _ => true
  | _ => false
theorem ki1 : kitB "bool" "int" = some true := by decide +kernel
theorem ki2 : kitB "int" "int" = some true := by decide +kernel
theorem ki3 : kitB "str" "int" = some false := by decide +kernel
theorem ki4 : kitB "list" "int" = some false := by decide +kernel
theorem ki5 : kitB "tuple" "int" = some false := by decide +kernel
theorem ki6 : kitB "dict" "int" = some false := by decide +kernel
theorem ki7 : kitB "NoneType" "int" = some false := by decide +kernel
theorem kl1 : kitB "bool" "bool" = some true := by decide +kernel
theorem kl2 : kitB "int" "bool" = some false := by decide +kernel
theorem Dv.tyInt {K : PySem.W.Frag} {H : Hp} {v : V} (h : Dv H v) : ∃ t, TyX K H v t ∧ PySem.W.kitOne K t (.type "int") = some (isIntV v) := by
  cases h with
  | non => exact ⟨_, .base .non, kit_ty ki7⟩
  | bl b => exact ⟨_, .base (.bl b), kit_ty ki1⟩
  | int i => exact ⟨_, .base (.int i), kit_ty ki2⟩
  | str h => exact ⟨_, .base (.str _), kit_ty ki3⟩
  | lst e => exact ⟨_, .base (.lst e), kit_ty ki4⟩
  | tup e => exact ⟨_, .base (.tup e), kit_ty ki5⟩
  | dK e => exact ⟨_, .base (.dK e), kit_ty ki6⟩
theorem scInt : FnScope ["value"] ["value"] (defScope sIsInt) := ⟨rfl, rfl, rfl, by decide +kernel, rfl, by decide +kernel, by decide +kernel⟩
theorem scPair : FnScope ["value"] ["value"] (defScope sIsPair) := ⟨rfl, rfl, rfl, by decide +kernel, rfl, by decide +kernel, by decide +kernel⟩
def spInt : Sp := fun vs H Q _ => ∃ v, vs = [v] ∧ Dv H v ∧ Q (.bl (intB v)) H
def spPair : Sp := fun vs H Q _ => ∃ v b, vs = [v] ∧ PairV H v b ∧ ∀ H', Same H H' → Q (.bl b) H'
section
variable {P : Program} {w : World} {K : PySem.W.Frag} {mg : Str → Option Value} {base : Heap}
theorem ok_int {f : Addr} {fd : FuncData} {k : Nat} (F : Fun K "is_integer" "is_integer" sIsInt f fd) (mi : mg "isinstance" = none) (mn : mg "int" = none) (mb : mg "bool" = none) (ma : mg "abs" = none) :
    FnOk P w K mg base CX0 (k + 1) f fd ["value"] spInt := by
  refine F.ok scInt (fun vs H Q E h => ?_) (fun cdv A outer s H vs Q E hr h => ?_)
  · obtain ⟨v, rfl, _⟩ := h
    rfl
  · obtain ⟨v, rfl, dv, q⟩ := h
    refine ⟨_, pss_one (ps_ret (pe_and (pe_callB call_isi (by rfl) mi (by decide +kernel) (pa_cons (pv 0) (pa_cons (pe_bltn (v := .ty "int") (by rfl) mn (by decide +kernel) rfl) pa_nil)))
      (pe_and (pe_not (pe_callB call_isi (by rfl) mi (by decide +kernel) (pa_cons (pv 0) (pa_cons (pe_bltn (v := .ty "bool") (by rfl) mb (by decide +kernel) rfl) pa_nil))))
      (pe_one (pe_cmpR op_lt (pe_callB call_abs (by rfl) ma (by decide +kernel) (pa_cons (pv 0) pa_nil)) (pe_op op_pow pe_int pe_int) (nomark _)))))), ?_⟩
    obtain ⟨t, ty, hk⟩ := dv.tyInt (K := K)
    refine ⟨v, rfl, v, .ty "int", t, .type "int", _, rfl, .ty "int", ty, hk, _, rfl, ite2 (fun e => ?_) (fun e => ?_)⟩
    · cases v with
      | bl b =>
        refine ⟨.bl b, rfl, .bl b, .ty "bool", .type "bool", .type "bool", true, rfl, .ty "bool", .base (.bl b), kit_ty kl1, true, rfl, false, rfl, iteF q⟩
      | int i =>
        refine ⟨.int i, rfl, .int i, .ty "bool", .type "int", .type "bool", false, rfl, .ty "bool", .base (.int i), kit_ty kl2, false, rfl, true, rfl, iteT ?_⟩
        exact ⟨.int i, rfl, i, rfl, 10, 60, rfl, rfl, ⟨by decide, by decide, by decide⟩, _, _, rfl, rfl, q⟩
      | _ => cases e
    · cases v with
      | bl b => exact absurd rfl e
      | int i => exact absurd rfl e
      | _ => exact q
theorem ok_pair {f g : Addr} {fd gd : FuncData} {k : Nat} (F : Fun K "is_pair" "is_pair" sIsPair f fd)
    (G : FnOk P w K mg base CX0 k g gd ["value"] (spWord K)) (gk : PySem.W.keepIn K (.ref g) = true) (gb : Binds K gd ["value"] []) (mgW : mg "is_word" = some (.ref g))
    (ml : mg "len" = none) (mi : mg "isinstance" = none) (mt : mg "tuple" = none) :
    FnOk P w K mg base CX0 (k + 1) f fd ["value"] spPair := by
  refine F.ok scPair (fun vs H Q E h => ?_) (fun cdv A outer s H vs Q E hr h => ?_)
  · obtain ⟨v, b, rfl, _⟩ := h
    rfl
  · obtain ⟨v, b, rfl, pr, q⟩ := h
    refine ⟨_, pss_one (ps_ret (pe_and (pe_callB call_isi (by rfl) mi (by decide +kernel) (pa_cons (pv 0) (pa_cons (pe_bltn (v := .ty "tuple") (by rfl) mt (by decide +kernel) rfl) pa_nil)))
      (pe_and (pe_cmpR op_eq (pe_callB call_len_seq (by rfl) ml PySem.boot_len (pa_cons (pv 0) pa_nil)) pe_int (nomark _))
      (pe_and (pe_call G hr (by rfl) mgW gk gb .nil pass0 (pa_cons (pe_ix ix_tup (pv 0) pe_int (fun _ _ => rfl)) pa_nil))
      (pe_and (pe_call G hr (by rfl) mgW gk gb .nil pass0 (pa_cons (pe_ix ix_tup (pv 0) pe_int (fun _ _ => rfl)) pa_nil))
      (pe_one (pe_cmpR op_lt_str (pe_ix ix_tup (pv 0) pe_int (fun _ _ => rfl)) (pe_ix ix_tup (pv 0) pe_int (fun _ _ => rfl)) (nomark _)))))))), ?_⟩
    cases pr with
    | no nt =>
      obtain ⟨t, ty, hk⟩ := nt.ty (K := K)
      exact ⟨v, rfl, v, .ty "tuple", t, .type "tuple", _, rfl, .ty "tuple", ty, hk, false, rfl, iteF (q H (Same.refl H))⟩
    | @len t xs e hx =>
      refine ⟨.ref t, rfl, .ref t, .ty "tuple", _, .type "tuple", true, rfl, .ty "tuple", .base (.tup e), kit_ty (by decide +kernel), true, rfl, iteT ?_⟩
      refine ⟨.ref t, rfl, t, xs, rfl, .inr (.inl (.inl e)), rfl, _, rfl, ite2 (fun e2 => ?_) (fun e2 => q H (Same.refl H))⟩
      have e3 := V.int.inj (of_decide_eq_true e2)
      omega
    | @two t x y b e dx dy hb =>
      refine ⟨.ref t, rfl, .ref t, .ty "tuple", _, .type "tuple", true, rfl, .ty "tuple", .base (.tup e), kit_ty (by decide +kernel), true, rfl, iteT ?_⟩
      refine ⟨.ref t, rfl, t, [x, y], rfl, .inr (.inl (.inl e)), rfl, true, rfl, iteT ?_⟩
      refine ⟨.ref t, rfl, t, [x, y], 0, x, rfl, rfl, .inl (.inl e), rfl, x, rfl, dx.tv, fun H1 s1 => ⟨_, rfl, ite2 (fun e1 => ?_) (fun e1 => ?_)⟩⟩
      · refine ⟨.ref t, rfl, t, [x, y], 1, y, rfl, rfl, .inl (.inl (s1 _ _ e)), rfl, y, rfl, (dy.same s1).tv, fun H2 s2 => ⟨_, rfl, ite2 (fun e2 => ?_) (fun e2 => ?_)⟩⟩
        · obtain ⟨zx, rfl⟩ : ∃ z, x = .str z := by cases x <;> first | exact ⟨_, rfl⟩ | cases e1
          obtain ⟨zy, rfl⟩ : ∃ z, y = .str z := by cases y <;> first | exact ⟨_, rfl⟩ | cases e2
          have s12 := s1.trans s2
          refine ⟨.ref t, rfl, t, [.str zx, .str zy], 0, .str zx, rfl, rfl, .inl (.inl (s12 _ _ e)), rfl, .ref t, rfl, t, [.str zx, .str zy], 1, .str zy, rfl, rfl, .inl (.inl (s12 _ _ e)), rfl, zx, zy, rfl, rfl, ?_⟩
          have eb : decide (zx.cps.toList < zy.cps.toList) = b := by
            rw [← hb, e1, e2]
            rfl
          rw [eb]
          exact q H2 s12
        · rw [Bool.eq_false_iff.mpr e2, Bool.false_and, Bool.and_false] at hb
          rw [hb]
          exact q H2 (s1.trans s2)
      · rw [Bool.eq_false_iff.mpr e1, Bool.false_and] at hb
        rw [hb]
        exact q H1 s1
end
/-! ### d.values() where keys are tuples, and sum of it -/
def valuesO (p d : Addr) : HO := .ext fun h => h.IsValuesView p d
theorem valuesO_ok {P : Program} {w : World} {H : Hp} {h : Heap} {p d : Addr} (e : h.get? p = some { cls := .type "dict_values", data := .fields #[.ref d] }) : ObjOk P w H h p (valuesO p d) :=
  ⟨⟨_, e, rfl, rfl⟩, ⟨_, e⟩, fun h1 h2 x k => let ⟨o, ho, r⟩ := x; ⟨o, k o ho, r⟩⟩
theorem preSum_list (ns : List Int) : ∀ j, preSum (fun i => ns.getD i 0) j = (ns.take j).sum
  | 0 => by simp [preSum]
  | j + 1 => by
    show preSum (fun i => ns.getD i 0) j + ns.getD j 0 = _
    rw [preSum_list ns j, List.take_add_one, List.sum_append, List.getD_eq_getElem?_getD]
    cases ns[j]? <;> simp
section
variable {X : Cx}
def rValuesT : V → List V → Hp → VK → Prop := fun x xs H Q => ∃ (a : Addr) (kvs : List (List Key × V)), x = .ref a ∧ xs = [] ∧ Rd H a (.dT kvs) ∧ ∀ p, H p = none → Q (.ref p) (upd H p (valuesO p a))
theorem mt_valuesT : MtR X "dict.values" rValuesT := by
  intro pins s σ H x xs v us Q I rx rxs h
  obtain ⟨a, kvs, rfl, rfl, ha, q⟩ := h
  cases rx
  cases rxs
  obtain ⟨z, hd, xs', rel, o, es, ep, ho, hx, hdat, _⟩ := dt_rd I.hok ha
  refine call_meetsIn F.slot_dict_values ⟨o, ho, hx.1⟩ F.entry_dict_values (F.args_dict_values_1 _) (meets_dict_values_raw a hd) ⟨⟨es, ep, o, ho, hx, hdat⟩, ?_⟩
  have hf : H s.heap.objs.size = none := I.hok.fresh (Nat.le_refl _)
  exact ⟨.ref s.heap.objs.size, upd H s.heap.objs.size (valuesO s.heap.objs.size a), I.laid (t' := s.toks) (fun b u e => Heap.get?_push_of_some _ e) (Nat.le_refl _) (valuesO_ok (Heap.get?_push_size _ rfl)), rfl, q _ hf⟩
theorem call_sumVT (hc : X.calm = true) : CallR X (.builtin "sum") (fun xs H Q => ∃ (p a : Addr) (kvs : List (List Key × V)) (ns : List Int), xs = [.ref p] ∧ H p = some (valuesO p a) ∧ Rd H a (.dT kvs) ∧ kvs.map (·.2) = ns.map V.int ∧ Q (.int ns.sum) H) := by
  intro pins s σ H xs us Q I r h
  obtain ⟨p, a, kvs, ns, rfl, hp, ha, hns, q⟩ := h
  obtain ⟨u, rfl, rx⟩ := vals1 r
  cases (show u = Value.ref p from rx)
  have view : s.heap.IsValuesView p a := (show ObjOk X.prog X.w H s.heap p (valuesO p a) from I.hok p _ hp).1
  obtain ⟨z, hd, ks, rel, o, es, ep, ho, hx, hdat, hes, his, hn⟩ := dt_rd I.hok ha
  have l1 : kvs.length = ks.length := Paired.length rel
  have l2 : es.size = ks.length := size_of_entries hes
  have l3 : kvs.length = ns.length := by
    have := congrArg List.length hns
    rwa [List.length_map, List.length_map] at this
  have alt : a < s.heap.objs.size := Heap.lt_size ho
  refine call_sum_walkG (wpAny_pyIter_values_raw view ⟨o, ho, hx, hdat⟩ ?_)
  refine ⟨_, _, _, _, _, _, fun i => ns.getD i 0, rfl, Walks.valuesH (xs := ks) (A := X.A.in1) (I.ok.hd hc) s.heap.objs.size a (Nat.ne_of_lt alt) es ep ?_, ⟨⟨_, Heap.get?_push_size _ rfl, rfl, rfl⟩, ⟨o, Heap.get?_push_of_some _ ho, hx, hdat⟩⟩, fun b hb => ?_, fun i v hP => ?_, fun h' tk t' hk => ?_⟩
  · intro i hi
    have hk : i < ks.length := by omega
    have e := entry_at hes i
    rw [Array.getElem?_eq_getElem hi, List.getElem?_eq_getElem hk] at e
    have e2 : es[i] = entryOfKey (tupleKind (mixKind X.prog X.w)) ks[i] := Option.some.inj e
    exact ⟨ks[i], List.getElem?_eq_getElem hk, by rw [e2]; rfl, by rw [e2]; rfl⟩
  · show b < (s.heap.push _).objs.size
    rw [Heap.size_push]
    rcases List.mem_cons.mp hb with e | hb
    · rw [e]
      exact Nat.lt_succ_self _
    · have e : b = a := List.mem_singleton.mp hb
      rw [e]
      exact Nat.lt_succ_of_lt alt
  · obtain ⟨y, hy, rfl⟩ := hP
    have hi : i < kvs.length := by
      rw [l1]
      exact (List.getElem?_eq_some_iff.mp hy).1
    obtain ⟨r1, r2, r3⟩ := paired_at rel (List.getElem?_eq_getElem hi) hy
    have e1 : (kvs.map (·.2))[i]? = some kvs[i].2 := by rw [List.getElem?_map, List.getElem?_eq_getElem hi] <;> rfl
    rw [hns, List.getElem?_map] at e1
    obtain ⟨j, hj, e2⟩ := Option.map_eq_some_iff.mp e1
    rw [← e2] at r3
    obtain ⟨t, e3⟩ := r3
    refine ⟨t, ?_⟩
    rw [e3]
    show Value.int j t = Value.int (ns.getD i 0) t
    rw [List.getD_eq_getElem?_getD, hj] <;> rfl
  · refine ⟨.int ns.sum, H, I.kept (t' := tk) fun b u e => hk b u (fun hmem => ?_) (Heap.get?_push_of_some _ e), ⟨t', ?_⟩, q⟩
    · have e1 : b = s.heap.objs.size := List.mem_singleton.mp hmem
      have e2 := Heap.lt_size e
      rw [e1] at e2
      exact absurd e2 (Nat.lt_irrefl _)
    · rw [preSum_list, List.take_of_length_le (by omega)]
end
/-! ### ties that a net can have -/
theorem ix_tupK {X : Cx} {K : PySem.W.Frag} (h : X.K = K) : IxR X (rIxT K) := h ▸ ix_tup
theorem op_in_seqK {X : Cx} {K : PySem.W.Frag} (h : X.K = K) : OpR X (compareOp .In) (rIn K false) := h ▸ op_in_seq
theorem scAreTi : FnScope ["places", "value", "pair"] ["places", "value"] (defScope sAreTies) := ⟨rfl, rfl, rfl, by decide +kernel, rfl, by decide +kernel, by decide +kernel⟩
def inP (ps : List Str) (x : Str) : Bool := inV (.str x) (ps.map V.str)
def pairOk (ps : List Str) (k : Str × Str) : Bool := (wordB (.str k.1) && (wordB (.str k.2) && ltB (.str k.1) (.str k.2))) && (inP ps k.1 && inP ps k.2)
def tieOk (v : Int) : Bool := intB (.int v) && decide (1 ≤ v)
def tiesB (ps : List Str) (ts : Ties) : Bool := (ts.all fun e => pairOk ps e.1) && ((ts.all fun e => tieOk e.2) && decide ((ts.map (·.2)).sum ≤ 60))
def spAreTi : Sp := fun vs H Q _ => ∃ (t d : Addr) (ps : List Str) (ts : Ties), vs = [.ref t, .ref d] ∧ H t = some (.tup (ps.map V.str)) ∧ H d = some (.dT (tk ts)) ∧ ts.length < 900 ∧ (ts.map (·.1)).Nodup ∧ (∀ e ∈ ts, okStr e.1.1 ∧ okStr e.1.2) ∧ ∀ H', Same H H' → Q (.bl (tiesB ps ts)) H'
theorem val_at : ∀ {ts : Ties} {e : (Str × Str) × Int}, (ts.map (·.1)).Nodup → e ∈ ts → valV (tk ts) (kP e.1) = some (.int e.2)
  | [], _, _, h => by cases h
  | f :: r, e, nd, h => by
    rw [tk_val, List.find?_cons]
    rw [List.map_cons, List.nodup_cons] at nd
    rcases List.mem_cons.mp h with rfl | h
    · rw [decide_eq_true rfl]
      rfl
    · have hne : ¬ f.1 = e.1 := fun z => nd.1 (List.mem_map.mpr ⟨e, h, z.symm⟩)
      rw [decide_eq_false hne]
      have := val_at nd.2 h
      rw [tk_val] at this
      exact this
theorem flat_strs : ∀ ps : List Str, (ps.map V.str).all flatV = true
  | [] => rfl
  | p :: r => by
    rw [List.map_cons, List.all_cons, flat_strs r]
    rfl
theorem dget_frz {H : Hp} {a b : Addr} {od : Obj} {kvs : List (List Key × V)} {k : List Key} (e : H a = some (.frz od (.dT kvs))) (eb : H b = some (.tup (k.map kV))) : DGet H a (.ref b) (valV kvs k) := .inr ⟨kvs, k, b, .inr ⟨od, e⟩, rfl, eb, rfl⟩
theorem same_unlock {H H' : Hp} {d : Addr} {od : Obj} {u : HO} (hd : H d = some u) (s : Same (upd H d (.frz od u)) H') : Same H (upd H' d u) := fun c o e => by
  by_cases hc : c = d
  · subst hc
    rw [upd_same, ← e, hd]
  · rw [upd_ne hc]
    exact s c o (by rw [upd_ne hc]; exact e)
section
variable {P : Program} {w : World} {K : PySem.W.Frag} {mg : Str → Option Value} {base : Heap}
theorem ok_areTi {f g1 g2 : Addr} {fd gd1 gd2 : FuncData} {k : Nat} {t60 : Tok} (F : Fun K "_are_ties" "_are_ties" sAreTies f fd)
    (G1 : FnOk P w K mg base CX0 (k + 1) g1 gd1 ["value"] spPair) (gk1 : PySem.W.keepIn K (.ref g1) = true) (gb1 : Binds K gd1 ["value"] []) (mg1 : mg "is_pair" = some (.ref g1))
    (G2 : FnOk P w K mg base CX0 (k + 1) g2 gd2 ["value"] spInt) (gk2 : PySem.W.keepIn K (.ref g2) = true) (gb2 : Binds K gd2 ["value"] []) (mg2 : mg "is_integer" = some (.ref g2))
    (mi : mg "isinstance" = none) (mD : mg "dict" = none) (mA : mg "all" = none) (mS : mg "sum" = none) (mM : mg "MAX_TIES" = some (.int 60 t60)) :
    FnOk P w K mg base CX0 (k + 2) f fd ["places", "value"] spAreTi := by
  refine F.ok scAreTi (fun vs H Q E h => ?_) (fun cdv A outer s H vs Q E hr h => ?_)
  · obtain ⟨t, d, ps, ts, rfl, _⟩ := h
    rfl
  · obtain ⟨t, d, ps, ts, rfl, ht, hd, hl, nd, ho, q⟩ := h
    have hu := hu_of hr
    refine ⟨_, pss_one (ps_ret (pe_and (pe_callB call_isi (by rfl) mi (by decide +kernel) (pa_cons (pv 1) (pa_cons (pe_bltn (v := .ty "dict") (by rfl) mD (by decide +kernel) rfl) pa_nil)))
      (pe_and (pe_callB (cr_all rfl) (by rfl) mA (by decide +kernel) (pa_cons (pe_lock (pe_lc (own := [("pair", 2)]) (g := gName 2) (tt := tYes) rfl scAreTi.nd (pi_keys (pv 1))
        (blkOk_by (N := ["places", "value", "pair"]) (sc := defScope sAreTies) (by decide +kernel)) (fun _ _ _ _ _ => pg_name (i := 2) scAreTi.nd rfl (Or.inl rfl)) (fun _ _ _ _ _ => pts_nil)
        (fun _ _ _ _ _ => pe_and (pe_call G1 hr (by rfl) mg1 gk1 gb1 .nil pass0 (pa_cons (pv 2) pa_nil))
          (pe_and (pe_cmpR (op_in_seqK (K := K) rfl) (pe_ix (ix_tupK (K := K) rfl) (pv 2) pe_int (fun _ _ => rfl)) (pv 0) rfl)
          (pe_one (pe_cmpR (op_in_seqK (K := K) rfl) (pe_ix (ix_tupK (K := K) rfl) (pv 2) pe_int (fun _ _ => rfl)) (pv 0) rfl)))))) pa_nil))
      (pe_and (pe_callB (cr_all rfl) (by rfl) mA (by decide +kernel) (pa_cons (pe_lock (pe_lc (own := [("pair", 2)]) (g := gName 2) (tt := tYes) rfl scAreTi.nd (pi_keys (pv 1))
        (blkOk_by (N := ["places", "value", "pair"]) (sc := defScope sAreTies) (by decide +kernel)) (fun _ _ _ _ _ => pg_name (i := 2) scAreTi.nd rfl (Or.inl rfl)) (fun _ _ _ _ _ => pts_nil)
        (fun _ _ _ _ _ => pe_and (pe_call G2 hr (by rfl) mg2 gk2 gb2 .nil pass0 (pa_cons (pe_dget hu (pv 1) (pv 2) (fun _ _ => rfl)) pa_nil))
          (pe_one (pe_cmpR op_ge (pe_dget hu (pv 1) (pv 2) (fun _ _ => rfl)) pe_int (nomark _)))))) pa_nil))
      (pe_one (pe_cmpR op_le (pe_callB (call_sumVT rfl) (by rfl) mS (by decide +kernel) (pa_cons (pe_bm0 PySem.F.plainAttrs_dict PySem.F.slot_dict_values PySem.F.type_dict_values mt_valuesT (pv 1)) pa_nil)) (pe_glob (v := .int 60) rfl mM ⟨_, rfl⟩) (nomark _))))))), ?_⟩
    refine ⟨.ref d, rfl, .ref d, .ty "dict", _, .type "dict", true, rfl, .ty "dict", .base (.dT hd), kit_ty (by decide +kernel), true, rfl, iteT ?_⟩
    -- the keys
    refine ⟨d, _, hd, trivial, fun od => ?_⟩
    have e0 : (upd H d (.frz od (.dT (tk ts)))) d = some (.frz od (.dT (tk ts))) := upd_same
    have keepT : ∀ c xs, H c = some (.tup xs) → (upd H d (.frz od (.dT (tk ts)))) c = some (.tup xs) := fun c xs e => by
      rw [upd_ne (ne_of e hd (fun z => nomatch z))]
      exact e
    have unl : ∀ H', Same (upd H d (.frz od (.dT (tk ts)))) H' → Same H (upd H' d (.dT (tk ts))) := fun H' s => same_unlock hd s
    have ht0 := keepT _ _ ht
    generalize upd H d (.frz od (.dT (tk ts))) = L0 at e0 ht0 unl ⊢
    refine ⟨.ref d, rfl, d, od, rfl, .inr ⟨tk ts, e0, fun D nD => lc_it walk_keysT (fun i H' => H' D = some (.lst ((ts.take i).map fun e => V.bl (pairOk ps e.1))) ∧ Same L0 H') ⟨upd_same, same_upd nD⟩ (fun i H' _ hP => hP.2 _ _ e0) (fun i x H0 H' hi hP hy => ?_) (fun H' hP => ?_)⟩⟩
    · obtain ⟨eD, sm⟩ := hP
      obtain ⟨rfl, k, v, b, hk, rfl, hb⟩ := hy
      obtain ⟨e, he, hke⟩ : ∃ e, ts[i]? = some e ∧ (kP e.1, V.int e.2) = (k, v) := by
        unfold tk at hk
        rw [List.getElem?_map] at hk
        exact Option.map_eq_some_iff.mp hk
      obtain ⟨rfl, rfl⟩ : kP e.1 = k ∧ V.int e.2 = v := by
        injection hke with a b
        exact ⟨a, b⟩
      have hb' : H' b = some (.tup [.str e.1.1, .str e.1.2]) := hb
      obtain ⟨o1, o2⟩ := ho e (List.mem_of_getElem? he)
      have ht' := sm _ _ ht0
      have fin : ∀ H4 y, Same H' H4 → y = pairOk ps e.1 → ∃ acc, H4 D = some (.lst acc) ∧ acc.length < sizeLine ∧ ((upd H4 D (.lst (acc ++ [V.bl y]))) D = some (.lst ((ts.take (i + 1)).map fun e => V.bl (pairOk ps e.1))) ∧ Same L0 (upd H4 D (.lst (acc ++ [V.bl y])))) := fun H4 y s4 hy => by
        refine ⟨_, s4 _ _ eD, ?_, ?_, ?_⟩
        · rw [List.length_map, List.length_take]
          exact small1000 (by omega)
        · rw [upd_same, List.take_add_one, he, List.map_append, hy]
          rfl
        · intro c o hc
          rw [upd_ne (ne_of_none hc nD)]
          exact s4 _ _ (sm c o hc)
      refine ⟨rfl, .ref b, rfl, .ref b, _, rfl, .two hb' (.str o1) (.str o2) rfl, fun H2 s2 => ⟨_, rfl, ite2 (fun e1 => ?_) (fun e1 => ?_)⟩⟩
      · refine ⟨.ref b, rfl, b, _, 0, _, rfl, rfl, .inl (.inl (s2 _ _ hb')), rfl, .ref t, rfl, t, ps.map V.str, rfl, .inr (.inl (.inl (s2 _ _ ht'))), rfl, flat_strs ps, _, rfl, ite2 (fun e2 => ?_) (fun e2 => ?_)⟩
        · refine ⟨.ref b, rfl, b, _, 1, _, rfl, rfl, .inl (.inl (s2 _ _ hb')), rfl, .ref t, rfl, t, ps.map V.str, rfl, .inr (.inl (.inl (s2 _ _ ht'))), rfl, flat_strs ps, fin H2 _ s2 ?_⟩
          unfold pairOk
          rw [e1, Bool.true_and]
          have e2' : inP ps e.1.1 = true := e2
          rw [e2', Bool.true_and]
          rfl
        · refine fin H2 _ s2 ?_
          unfold pairOk
          rw [e1, Bool.true_and]
          have e2' : inP ps e.1.1 = false := Bool.eq_false_iff.mpr e2
          rw [e2', Bool.false_and]
      · refine fin H2 _ s2 ?_
        unfold pairOk
        rw [Bool.eq_false_iff.mpr e1, Bool.false_and]
    · obtain ⟨eD, sm⟩ := hP
      refine ⟨sm _ _ e0, ?_⟩
      have sU := unl H' sm
      have nDd : D ≠ d := (ne_of_none e0 nD).symm
      have hdU : (upd H' d (.dT (tk ts))) d = some (.dT (tk ts)) := upd_same
      rw [List.take_of_length_le (Nat.le_of_eq (tk_len ts).symm)] at eD
      have eDU : (upd H' d (.dT (tk ts))) D = some (.lst (ts.map fun e => V.bl (pairOk ps e.1))) := by
        rw [upd_ne nDd]
        exact eD
      generalize upd H' d (.dT (tk ts)) = HU at sU hdU eDU ⊢
      refine ⟨D, ts.map (fun e => pairOk ps e.1), rfl, .inl (.inl (by rw [List.map_map]; exact eDU)), ?_⟩
      have ea : (ts.map fun e => pairOk ps e.1).all id = ts.all fun e => pairOk ps e.1 := by
        rw [List.all_map]
        rfl
      rw [ea]
      refine ⟨_, rfl, ite2 (fun e3 => ?_) (fun e3 => ?_)⟩
      · refine ⟨d, _, hdU, trivial, fun od2 => ?_⟩
        have e1 : (upd HU d (.frz od2 (.dT (tk ts)))) d = some (.frz od2 (.dT (tk ts))) := upd_same
        have unl2 : ∀ H', Same (upd HU d (.frz od2 (.dT (tk ts)))) H' → Same HU (upd H' d (.dT (tk ts))) := fun H' s => same_unlock hdU s
        generalize upd HU d (.frz od2 (.dT (tk ts))) = L1 at e1 unl2 ⊢
        refine ⟨.ref d, rfl, d, od2, rfl, .inr ⟨tk ts, e1, fun D2 nD2 => lc_it walk_keysT (fun i H' => H' D2 = some (.lst ((ts.take i).map fun e => V.bl (tieOk e.2))) ∧ Same L1 H') ⟨upd_same, same_upd nD2⟩ (fun i H' _ hP => hP.2 _ _ e1) (fun i x H0 H' hi hP hy => ?_) (fun H' hP => ?_)⟩⟩
        · obtain ⟨eD2, sm2⟩ := hP
          obtain ⟨rfl, k, v, b, hk, rfl, hb⟩ := hy
          obtain ⟨e, he, hke⟩ : ∃ e, ts[i]? = some e ∧ (kP e.1, V.int e.2) = (k, v) := by
            unfold tk at hk
            rw [List.getElem?_map] at hk
            exact Option.map_eq_some_iff.mp hk
          obtain ⟨rfl, rfl⟩ : kP e.1 = k ∧ V.int e.2 = v := by
            injection hke with a b
            exact ⟨a, b⟩
          have dg : DGet H' d (.ref b) (some (.int e.2)) := by
            have := dget_frz (k := kP e.1) (sm2 _ _ e1) hb
            rw [val_at nd (List.mem_of_getElem? he)] at this
            exact this
          have fin : ∀ y, y = tieOk e.2 → ∃ acc, H' D2 = some (.lst acc) ∧ acc.length < sizeLine ∧ ((upd H' D2 (.lst (acc ++ [V.bl y]))) D2 = some (.lst ((ts.take (i + 1)).map fun e => V.bl (tieOk e.2))) ∧ Same L1 (upd H' D2 (.lst (acc ++ [V.bl y])))) := fun y hy => by
            refine ⟨_, eD2, ?_, ?_, ?_⟩
            · rw [List.length_map, List.length_take]
              exact small1000 (by omega)
            · rw [upd_same, List.take_add_one, he, List.map_append, hy]
              rfl
            · intro c o hc
              rw [upd_ne (ne_of_none hc nD2)]
              exact sm2 c o hc
          refine ⟨rfl, .ref d, rfl, .ref b, rfl, d, _, rfl, dg, _, rfl, .int _, _, rfl, ite2 (fun e4 => ?_) (fun e4 => ?_)⟩
          · refine ⟨.ref d, rfl, .ref b, rfl, d, _, rfl, dg, _, 1, rfl, rfl, fin _ ?_⟩
            unfold tieOk
            rw [e4, Bool.true_and]
          · refine fin _ ?_
            unfold tieOk
            rw [Bool.eq_false_iff.mpr e4, Bool.false_and]
        · obtain ⟨eD2, sm2⟩ := hP
          refine ⟨sm2 _ _ e1, ?_⟩
          have sV := sU.trans (unl2 H' sm2)
          have nDd2 : D2 ≠ d := (ne_of_none e1 nD2).symm
          have hdV : (upd H' d (.dT (tk ts))) d = some (.dT (tk ts)) := upd_same
          rw [List.take_of_length_le (Nat.le_of_eq (tk_len ts).symm)] at eD2
          have eDV : (upd H' d (.dT (tk ts))) D2 = some (.lst (ts.map fun e => V.bl (tieOk e.2))) := by
            rw [upd_ne nDd2]
            exact eD2
          generalize upd H' d (.dT (tk ts)) = HV at sV hdV eDV ⊢
          refine ⟨D2, ts.map (fun e => tieOk e.2), rfl, .inl (.inl (by rw [List.map_map]; exact eDV)), ?_⟩
          have ea2 : (ts.map fun e => tieOk e.2).all id = ts.all fun e => tieOk e.2 := by
            rw [List.all_map]
            rfl
          rw [ea2]
          refine ⟨_, rfl, ite2 (fun e5 => ?_) (fun e5 => ?_)⟩
          · refine ⟨.ref d, rfl, .inr (.inr (.inl ⟨rfl, .inr ⟨_, hdV⟩⟩)), d, tk ts, rfl, rfl, .inl hdV, fun p np => ?_⟩
            refine ⟨p, d, tk ts, ts.map (·.2), rfl, upd_same, .inl ((same_upd np) _ _ hdV), ?_, _, 60, rfl, rfl, ?_⟩
            · unfold tk
              rw [List.map_map, List.map_map]
              rfl
            · have := q _ (sV.trans (same_upd (o := valuesO p d) np))
              unfold tiesB at this
              rw [e3, Bool.true_and, e5, Bool.true_and] at this
              exact this
          · have := q _ sV
            unfold tiesB at this
            rw [e3, Bool.true_and, Bool.eq_false_iff.mpr e5, Bool.false_and] at this
            exact this
      · have := q _ sU
        unfold tiesB at this
        rw [Bool.eq_false_iff.mpr e3, Bool.false_and] at this
        exact this
end
/-! ### sorted(t) of a tuple of texts -/
section
variable {X : Cx}
theorem call_sortedTupS : CallR X (.builtin "sorted") (fun vs H Q => ∃ (a : Addr) (xs : List Str), vs = [V.ref a] ∧ SqT X.K H a (xs.map V.str) ∧ xs.length < 64 ∧
    ∀ (ys : List Str) (p : Addr), ys.Perm xs → sortedS ys = true → H p = none → Q (.ref p) (upd H p (.lst (ys.map V.str)))) := by
  intro pins s σ H vs us Q I r h
  obtain ⟨a, xs, rfl, hs, h64, q⟩ := h
  obtain ⟨its, rv, ⟨o, ho, hcl, n, hd⟩, hz⟩ := I.tuple hs
  rw [Vals.ref1 r]
  have hS : StrsAre its xs := rv.strs
  have hlen0 := rv.length
  rw [List.length_map] at hlen0
  refine Calls.call_function_entry kind_sorted plain_sorted entry_sorted (args_sorted1 _) ?_
  unfold Builtin.«sorted»
  refine wpAny_bind (m := checkCount "sorted" 1 1 _) (wpAny_pure ?_)
  refine wpAny_bind (wpAny_collect_seq a (.inr rfl) ho hcl hd (fun h' hk => ?_) (by rw [List.size_toArray]; exact Nat.le_of_lt (small1000 (by omega))))
  have I1 : Inv X pins σ H { s with heap := h' } := I.kept (t' := s.toks) hk
  refine wpAny_bind (wpAny_newList ?_ (by show its.length ≤ _; exact Nat.le_of_lt (small1000 (by omega))))
  have hoL : (h'.push (seqObj "list" its.toArray 0)).get? h'.objs.size = some (seqObj "list" its.toArray 0) := Heap.get?_push_size _ rfl
  show wpAny _ _ _ _ _ { s with heap := h'.push (seqObj "list" its.toArray 0) }
  refine wpAny_bind (wpAny_holding (wpAny_call_entry PyProof.Rows.slot_list_sort ⟨_, hoL, rfl⟩ PyProof.Rows.entry_list_sort
    (list_sort_treeK strKind_oneLt hoL hS.keysOf (fun v₁ v₂ rest e => keyKind_strs (by rw [← e]; exact hS)) (by omega) fun st' hp hso => ⟨_, rfl, ?_⟩) (PyProof.Rows.args_list_sort _)))
  obtain ⟨ys, h1, h2, h3⟩ := sorted_out_str hS hp hso
  obtain ⟨e', he'⟩ := PyProof.Rows.sortedHeap_at (vs := its) (out := (arrOf st').map (·.2)) hoL
  have new : H h'.objs.size = none := I1.hok.fresh (Nat.le_refl _)
  have hlen : (ys.map V.str).length ≤ sizeLine := by
    rw [List.length_map, h2.length_eq]
    exact small64 h64
  refine wpAny_pure ⟨_, rfl, .ref h'.objs.size, upd H h'.objs.size (.lst (ys.map V.str)), I1.laid (t' := s.toks) (fun b u e => ?_) (Nat.le_refl _)
    (show ObjOk X.prog X.w _ _ _ (.lst (ys.map V.str)) from ⟨hlen, _, e', vals_of_strs h1, he'⟩), rfl, q ys _ h2 h3 new⟩
  have hb : b < h'.objs.size := Heap.lt_size e
  rw [PyProof.Rows.sortedHeap_old (Nat.ne_of_lt hb) (by rw [size_push']; exact Nat.lt_succ_of_lt hb)]
  exact Heap.get?_push_of_some _ e
end
/-! ### one item put by a comprehension, whatever the keys are -/
section
variable {X : Cx} {pins : List (Addr × Obj)} {σ : L2.St} {H H' : Hp} {s : Shared} {E : Value → Shared → Prop} {D : Addr} {y v : V} {u r : Value}
theorem d_dictPut {Q : Unit → Shared → Prop} (hu : X.A.units + 1 < cLine) (I : Inv X pins σ H s) (g : DPut H D y v H') (ry : RelV y u) (rv : RelV v r) (h : ∀ s', Inv X pins σ H' s' → Q () s') :
    wpAny (model X.prog X.w) X.A (dictSet D u r) Q E s := by
  rcases g with ⟨kvs, k, e, rfl, l, rfl⟩ | ⟨kvs, k, b, e, rfl, eb, l, rfl⟩
  · exact d_dictSet I e l ry rv h
  · cases (show u = Value.ref b from ry)
    obtain ⟨z, hd, xs, rel, dd⟩ := dt_of I.hok e
    have hz : xs.length ≤ sizeLine := by
      rw [← Paired.length rel]
      exact z
    have hl : (putK kvs k v).length ≤ sizeLine := by
      have := length_putK kvs k v
      omega
    refine wpAny_dictSet_heap (hsz := hz) (by show X.A.units < cLine; omega) (key_of I.hok eb) dd fun h' dd' hs => h _ ?_
    obtain ⟨q, es, ep, hq, h2, h3, h4, _, h5⟩ := dd'
    refine d_write I (by rw [e]; exact True.intro) hs ⟨q, hq⟩ ⟨hl, hd, _, (rel.put k eb rv).keeps fun c ys ec => ?_, q, es, ep, hq, h2, h3, h4, h5⟩
    rw [upd_ne (ne_of ec e (fun z => nomatch z))]
    exact ec
end
/-! ### {k: v for t in it}, keys of any kind: one item is put by DPut -/
/-- a reading: D is the new dict, W what holds between two turns -/
def tDcP (wi : TI) (g : TG) (tt : TT) (tk tv : TE) (vs : List Nat) : TE := fun σ H Q => wi σ H fun J H1 => ∀ D, H1 D = none → ∃ W : Nat → Nat → Hp → Prop, (∃ m, W 0 m (upd H1 D (.dT []))) ∧ ∀ i m H, W i m H →
  (J.stop i H ∧ Q (.ref D) H) ∨ (J.go i H ∧ ∃ Nx : Hp → Prop, (∀ H', Nx H' → ∃ m', m' < m ∧ W (i + 1) m' H') ∧ ∀ x H', J.yld i H x H' →
    g x (wipe σ vs) H' fun σ2 H2 => wipe σ2 vs = wipe σ vs ∧ tt σ2 H2 fun b H3 => if b = true then tk σ2 H3 fun y H4 => tv σ2 H4 fun z H5 => ∃ H6, DPut H5 D y z H6 ∧ Nx H6 else Nx H3)
section
variable {X B : Cx} {σ : L2.St} {kx vx tg iter : Expr} {ifs : List Expr} {scope : Scope} {vs : List Nat} {pos : Pos} {g : TG} {tt : TT} {tk tv : TE}
theorem offX {α : Type} {M : Model} {A : Around} {c : Sem α} {Q : α → Shared → Prop} {E E' : Value → Shared → Prop} {s : Shared} (e : E = E') (h : wpAny M A c Q E s) : wpAny M A c Q E' s := e ▸ h
/-- the loop within the block B, whose iterator is it -/
theorem dcp_loop {it D : Addr} {fp : List Addr} {tn : Nat → Heap → Prop} {J : It} {R : Result → Shared → Prop} {H0 : Hp} {s0 : Shared} {W : Nat → Nat → Hp → Prop} {m0 : Nat} {Qe : Hp → Prop}
    (hc : B.calm = true) (hu : B.A.units + 1 < cLine) (T : Turn B.prog B.w B.K tg J fp it tn)
    (own : ∀ (σ' : L2.St) (H' : Hp) (s' : Shared), Inv B [] σ' H' s' → (∀ b ∈ fp, H' b = none) → ∀ b ∈ fp, FpOk B [] H' b)
    (pg : PG B tg g) (pt : PTs B ifs tt) (pk : PE B kx tk) (pe : PE B vx tv)
    (I0 : Inv B [] (wipe σ vs) H0 s0) (t0 : tn 0 s0.heap) (n0 : ∀ b ∈ fp, H0 b = none) (w0 : W 0 m0 H0)
    (hxe : B.xe = fun _ _ => False)
    (turn : ∀ i m H, W i m H → (J.stop i H ∧ Qe H) ∨ (J.go i H ∧ ∃ Nx : Hp → Prop, (∀ H', Nx H' → ∃ m', m' < m ∧ W (i + 1) m' H') ∧ ∀ x H', J.yld i H x H' →
      g x (wipe σ vs) H' fun σ2 H2 => wipe σ2 vs = wipe σ vs ∧ tt σ2 H2 fun b H3 => if b = true then tk σ2 H3 fun y H4 => tv σ2 H4 fun z H5 => ∃ H6, DPut H5 D y z H6 ∧ Nx H6 else Nx H3))
    (last : ∀ H' s', Inv B [] (wipe σ vs) H' s' → Qe H' → R (.ok .next) s') :
    codeAny (model B.prog B.w) B.A (.compLoop (.DictComp kx vx [⟨tg, iter, ifs, 0⟩] scope pos) 0 (.ref it) (.ref D) B.env) R s0 := by
  refine compLoop_anyD (fun n s => ∃ i H, Inv B [] (wipe σ vs) H s ∧ tn i s.heap ∧ (∀ b ∈ fp, H b = none) ∧ W i n H) (fun n s ⟨i, H, I, t, nn, w⟩ => ?_) m0 ⟨0, H0, I0, t0, n0, w0⟩
  rcases turn i n H w with ⟨stop, qe⟩ | ⟨go, Nx, hNx, step⟩
  · refine thnF (T.done B rfl rfl rfl hc i [] s _ H (fun _ _ => False) I (own _ _ _ I nn) t stop) fun r s1 ⟨hr, I1⟩ => ?_
    subst hr
    exact last H s1 I1 qe
  · refine thnF (T.item B rfl rfl rfl hc i [] s _ H (fun _ _ => False) I (own _ _ _ I nn) t go) fun r s1 ⟨u, hr, q1⟩ => ?_
    subst hr
    refine thnF q1 fun _ s2 ⟨x, H2, I2, rx, y2, t2, n2⟩ => ?_
    refine thnF (offX hxe (pg.run _ s2 _ H2 x u _ (I2.pinned (own _ _ _ I2 n2) (T.obj _ _ t2)) rx (step x H2 y2))) fun _ s3 ⟨σ3, H3, I3, hw, q3⟩ => ?_
    have again : ∀ (s' : Shared) (H' : Hp), Inv B ([] ++ pinsAt fp s2.heap) σ3 H' s' → Nx H' → ∃ m, m < n ∧ ∃ i H, Inv B [] (wipe σ vs) H s' ∧ tn i s'.heap ∧ (∀ b ∈ fp, H b = none) ∧ W i m H := fun s' H' I' nx => by
      obtain ⟨m', hm, w'⟩ := hNx H' nx
      have held : ∀ b ∈ fp, ∀ o, s2.heap.get? b = some o → s'.heap.get? b = some o ∧ H' b = none := fun b hb o e =>
        let z := I'.pin (b, o) (List.mem_append_right _ (List.mem_append_right _ (mem_pinsAt hb e)))
        ⟨z.1, z.2.1⟩
      refine ⟨m', hm, i + 1, H', (I'.unpinned (pins := [])).weak (by rw [← hw, wipe_length]) (fun j v e => ?_), T.keep _ _ _ t2 fun b hb o e => (held b hb o e).1, fun b hb => ?_, w'⟩
      · rw [← hw] at e
        exact (wipe_some e).1
      · obtain ⟨o, e, _⟩ := T.obj _ _ t2 b hb
        exact (held b hb o e).2
    refine thnF (offX hxe (pt.run _ s3 σ3 H3 _ I3 q3)) fun b s4 ⟨H4, I4, q4⟩ => ?_
    cases b with
    | false =>
      simp only [Bool.false_eq_true, if_false] at q4 ⊢
      exact again _ _ I4 q4
    | true =>
      simp only [if_true] at q4 ⊢
      refine thnF (offX hxe (pk.run _ s4 σ3 H4 _ I4 q4)) fun z s5 ⟨yk, H5, I5, rk, q5⟩ => thnF (offX hxe (pe.run _ s5 σ3 H5 _ I5 q5)) fun z2 s6 ⟨yv, H6, I6, rv, H7, dp, nx⟩ => ?_
      exact d_dictPut hu I6 dp rk rv fun s7 I7 => again _ _ I7 nx
end
section
variable {X : Cx}
theorem pe_dcP {kx vx tg iter : Expr} {ifs : List Expr} {scope : Scope} {own : List (Str × Nat)} {pos : Pos} {wi : TI} {g : TG} {tt : TT} {tk tv : TE} (hc : X.calm = true) (hu : X.A.units + 1 < cLine) (hN : X.N.Nodup) (hi : PI X tg iter wi) (ok : BlkOk X.N X.env.scope scope own)
    (hg : ∀ (s : Shared) (H : Hp) (C : Addr) (cl : List (Str × Addr)) (fp : List Addr), PG (X.blk s H scope (compEnvC scope cl C X.env) fp) tg g)
    (ht : ∀ (s : Shared) (H : Hp) (C : Addr) (cl : List (Str × Addr)) (fp : List Addr), PTs (X.blk s H scope (compEnvC scope cl C X.env) fp) ifs tt)
    (hk : ∀ (s : Shared) (H : Hp) (C : Addr) (cl : List (Str × Addr)) (fp : List Addr), PE (X.blk s H scope (compEnvC scope cl C X.env) fp) kx tk)
    (hv : ∀ (s : Shared) (H : Hp) (C : Addr) (cl : List (Str × Addr)) (fp : List Addr), PE (X.blk s H scope (compEnvC scope cl C X.env) fp) vx tv) (hs : ∀ x, foldedSetIterable iter X.env x = pure x := by intro _; rfl) :
    PE X (.DictComp kx vx [⟨tg, iter, ifs, 0⟩] scope pos) (tDcP wi g tt tk tv (own.map (·.2))) := by
  refine ⟨fun pins s σ H Q I h => ?_⟩
  rw [arm_eval_DictComp]
  have cells : ∀ y ∈ scope.names, y.2 = .free → ∃ c, X.env.cells.lookup y.1 = some c := fun y hy e =>
    I.ok.has _ ((ok.free y hy e).elim .inl .inr)
  refine wpAny_comprehension_free (use := none) rfl hs (closure_ok cells) ok.kind (fun y hy e => by rw [ok.uniq y hy, e])
    (thn (hi.run pins s σ H _ I h) fun xv s1 hx => thn hx fun itv s2 ⟨it, fp, tn, J, H2, e, I2, T, st2, f2, q⟩ => ?_)
  subst e
  refine wpAny_newObj_type (newEnv_comp ?_)
  have hDn : H2 s2.heap.objs.size = none := I2.hok.fresh (Nat.le_refl _)
  obtain ⟨W, ⟨m0, w0⟩, turn⟩ := q _ hDn
  have I3 : Inv X pins σ (upd H2 s2.heap.objs.size (.dT [])) { s2 with heap := s2.heap.push { cls := .type "dict", data := .dict #[] } } :=
    I2.laid (t' := s2.toks) (fun b o e => Heap.get?_push_of_some _ e) (Nat.le_refl _) (dt_empty s2.heap I2.big)
  have low : ∀ b ∈ fp, b < s2.heap.objs.size := fun b hb => by
    obtain ⟨o, e, _⟩ := T.obj _ _ st2 b hb
    exact Heap.lt_size e
  have f3 : ∀ b ∈ fp, FpOk X pins (upd H2 s2.heap.objs.size (.dT [])) b ∧ b < (s2.heap.push { cls := .type "dict", data := .dict #[] }).objs.size := fun b hb => by
    refine ⟨⟨?_, (f2 b hb).2⟩, by rw [Heap.size_push]; exact Nat.lt_succ_of_lt (low b hb)⟩
    rw [upd_ne (Nat.ne_of_lt (low b hb))]
    exact (f2 b hb).1
  have st3 : tn 0 (s2.heap.push { cls := .type "dict", data := .dict #[] }) := T.keep _ _ _ st2 fun b _ o e => Heap.get?_push_of_some _ e
  generalize hs3 : ({ s2 with heap := s2.heap.push { cls := .type "dict", data := .dict #[] } } : Shared) = s3 at I3 ⊢
  have h3 : s2.heap.push { cls := .type "dict", data := .dict #[] } = s3.heap := by rw [← hs3]
  rw [h3] at f3 st3
  generalize hH3 : upd H2 s2.heap.objs.size (.dT []) = H3 at I3 f3 w0
  generalize s2.heap.objs.size = D at turn w0 ⊢
  show codeAny _ _ (.compStart (.DictComp kx vx [⟨tg, iter, ifs, 0⟩] scope pos) 0 (.ref it) (.ref D) (compEnvC scope (cellsFrom (s3.heap.objs.size + 1) scope.names (cloFrom X.env.cells scope.names [])) s3.heap.objs.size X.env))
    (compPost (model X.prog X.w) X.A X.xe none (EP X pins σ Q) (.ref D) s3.heap.objs.size) { s3 with heap := pushCells (s3.heap.push { cls := .type "dict", data := .dict #[] }) scope.names }
  have I4 := block_start I3 ok hN f3
  have pg := hg s3 H3 s3.heap.objs.size (cellsFrom (s3.heap.objs.size + 1) scope.names (cloFrom X.env.cells scope.names [])) fp
  have pt := ht s3 H3 s3.heap.objs.size (cellsFrom (s3.heap.objs.size + 1) scope.names (cloFrom X.env.cells scope.names [])) fp
  have pk := hk s3 H3 s3.heap.objs.size (cellsFrom (s3.heap.objs.size + 1) scope.names (cloFrom X.env.cells scope.names [])) fp
  have pv := hv s3 H3 s3.heap.objs.size (cellsFrom (s3.heap.objs.size + 1) scope.names (cloFrom X.env.cells scope.names [])) fp
  generalize hce : compEnvC scope (cellsFrom (s3.heap.objs.size + 1) scope.names (cloFrom X.env.cells scope.names [])) s3.heap.objs.size X.env = ce at I4 pg pt pk pv ⊢
  have hL : ce.locals = s3.heap.objs.size := by rw [← hce]; rfl
  generalize hs4 : ({ s3 with heap := pushCells (s3.heap.push { cls := .type "dict", data := .dict #[] }) scope.names } : Shared) = s4 at I4 ⊢
  have st4 : tn 0 s4.heap := T.keep _ _ _ st3 fun b _ o e => by
    rw [← hs4]
    exact pushCells_keeps _ _ _ _ (Heap.get?_push_of_some _ e)
  have loop : codeAny (model X.prog X.w) X.A (.compLoop (.DictComp kx vx [⟨tg, iter, ifs, 0⟩] scope pos) 0 (.ref it) (.ref D) ce) (compPost (model X.prog X.w) X.A X.xe none (EP X pins σ Q) (.ref D) s3.heap.objs.size) s4 := by
    refine dcp_loop (B := X.blk s3 H3 scope ce fp) (σ := σ) (vs := own.map (·.2)) (J := J) (W := W) (m0 := m0) (Qe := fun H' => Q (.ref D) H') hc hu T (fun σ' H' s' I' nn b hb => ?_) pg pt pk pv I4 st4 (fun b hb => (f3 b hb).1.1) w0 rfl turn (fun H' s' I' qe => ?_)
    · exact ⟨nn b hb, (I'.ok.exf b hb).1, I'.ok.exfs b hb, .inl hb, fun x c e => (I'.ok.exf b hb).2 x c e, fun p hp => absurd (show p ∈ ([] : List (Addr × Obj)) ++ [] from hp) (by simp)⟩
    · have I7 : Inv X pins σ H' s' := I3.call' (ch := fp) I'.os I'.base I'.hok I'.bare fun b hb => ⟨(f3 b hb).1.2.2.2.1, (f3 b hb).1.2.1, (f3 b hb).1.2.2.2.2.1, (f3 b hb).1.2.2.2.2.2⟩
      obtain ⟨m, hn, _⟩ := I'.loc
      have hn : s'.heap.Ns ce.locals m := hn
      have free : H' ce.locals = none := I'.free
      rw [hL] at hn free
      obtain ⟨f0, f1, f2, f3, f4, f5⟩ := I3.fpOk (Nat.le_refl _) free
      exact ⟨m, hn, fun h'' sb => ⟨.ref D, H', I7.turned (t' := s'.toks) (fun b o hb e => (sb.2 b hb).trans e) f0 f1 f3 f4 f5, rfl, qe⟩⟩
  exact codeAny_compStart_dict loop (T.self X.A 0 _ _ _ st4 loop)
end
/-- over anything that is walked: Pv by the turn and the heap, the new dict within -/
theorem dcp_it {J : It} {n : Nat} {G : Hp → Prop} {Y : Nat → Hp → V → Hp → Prop} (wk : Walk J n G Y) {g : TG} {tt : TT} {tk tv : TE} {vs : List Nat} {σ : L2.St} {H1 : Hp} {D : Addr} {Qd : Hp → Prop} (Pv : Nat → Hp → Prop) (h0 : Pv 0 (upd H1 D (.dT [])))
    (hG : ∀ i H, i ≤ n → Pv i H → G H)
    (hs : ∀ i x H H', i < n → Pv i H → Y i H x H' → g x (wipe σ vs) H' fun σ2 H2 => wipe σ2 vs = wipe σ vs ∧ tt σ2 H2 fun b H3 =>
      if b = true then tk σ2 H3 fun y H4 => tv σ2 H4 fun z H5 => ∃ H6, DPut H5 D y z H6 ∧ Pv (i + 1) H6 else Pv (i + 1) H3) (hd : ∀ H, Pv n H → Qd H) :
    ∃ W : Nat → Nat → Hp → Prop, (∃ m, W 0 m (upd H1 D (.dT []))) ∧ ∀ i m H, W i m H →
      (J.stop i H ∧ Qd H) ∨ (J.go i H ∧ ∃ Nx : Hp → Prop, (∀ H', Nx H' → ∃ m', m' < m ∧ W (i + 1) m' H') ∧ ∀ x H', J.yld i H x H' → g x (wipe σ vs) H' fun σ2 H2 => wipe σ2 vs = wipe σ vs ∧ tt σ2 H2 fun b H3 =>
        if b = true then tk σ2 H3 fun y H4 => tv σ2 H4 fun z H5 => ∃ H6, DPut H5 D y z H6 ∧ Nx H6 else Nx H3) := by
  refine ⟨fun i m H => m = n - i ∧ i ≤ n ∧ Pv i H, ⟨n, rfl, Nat.zero_le _, h0⟩, fun i m H ⟨hm, hi, p⟩ => ?_⟩
  have hg := hG i H hi p
  rcases Nat.lt_or_ge i n with lt | ge
  · exact .inr ⟨wk.goes i H lt hg, Pv (i + 1), fun H' p' => ⟨n - (i + 1), by omega, rfl, lt, p'⟩, fun x H' y => hs i x H H' lt p (wk.yields i H x H' lt hg y)⟩
  · obtain rfl : i = n := by omega
    exact .inl ⟨wk.stops H hg, hd H p⟩
/-! ### Net.__init__, where there is such a net -/
abbrev sInit : Stmt := (C8.clsBody sNet).getD 0 (.Pass ⟨0, 0, 0, 0⟩)
def tNever : TS := fun _ _ _ => False
theorem ps_never {X : Cx} {st : Stmt} : PS X st tNever := ⟨fun _ _ _ _ _ _ h => h.elim⟩
theorem scInit : FnScope ["self", "places", "ties", "counts", "pair"] ["self", "places", "ties"] (C8.fnScope sInit) := ⟨rfl, rfl, rfl, by decide +kernel, rfl, by decide +kernel, by decide +kernel⟩
def sortTi (ts : Ties) : Ties := ((ts.map (·.1)).mergeSort leP).map fun k => (k, getT ts k)
theorem putT_new {A : Ties} {k : Str × Str} {v : Int} (h : ∀ e ∈ A, e.1 ≠ k) : putT A k v = A ++ [(k, v)] := by
  unfold putT
  rw [if_neg]
  intro z
  obtain ⟨e, he, g⟩ := List.any_eq_true.mp z
  exact h e he (of_decide_eq_true g)
/-- the net at x, which was new -/
structure NetO (C dx : Addr) (H0 H : Hp) (x : Addr) (ps : List Str) (ts : Ties) : Prop where
  ex : ∃ t d, H x = some (.ins C dx [("_places", .ref t), ("_ties", .ref d)]) ∧ H t = some (.tup (ps.map V.str)) ∧ H d = some (.dT (tk ts)) ∧ H0 t = none ∧ H0 d = none
def spInit (C : Addr) : Sp := fun vs H Q _ => ∃ (x dx t d : Addr) (ps : List Str) (ts : Ties), vs = [.ref x, .ref t, .ref d] ∧ H x = some (.ins C dx []) ∧ H t = some (.tup (ps.map V.str)) ∧ H d = some (.dT (tk ts)) ∧
  ts.length < 900 ∧ (ts.map (·.1)).Nodup ∧ (∀ p ∈ ps, okStr p) ∧ (∀ e ∈ ts, okStr e.1.1 ∧ okStr e.1.2) ∧ placesB ps = true ∧ tiesB ps ts = true ∧
  ∀ H' qs, qs.Perm ps → sortedS qs = true → (∀ c o, c ≠ x → H c = some o → H' c = some o) → NetO C dx H H' x qs (sortTi ts) → Q .non H'
section
variable {P : Program} {w : World} {K : PySem.W.Frag} {mg : Str → Option Value} {base : Heap}
theorem ok_init {f g1 g2 C : Addr} {fd gd1 gd2 : FuncData} {k : Nat} (F : C8.Fun K "__init__" "Net.__init__" sInit f fd) (hC : Cls K C) (n1 : NoAttr K C "_places") (n2 : NoAttr K C "_ties")
    (G1 : FnOk P w K mg base CX0 (k + 3) g1 gd1 ["value"] (spArePl K)) (gk1 : PySem.W.keepIn K (.ref g1) = true) (gb1 : Binds K gd1 ["value"] []) (mg1 : mg "_are_places" = some (.ref g1))
    (G2 : FnOk P w K mg base CX0 (k + 3) g2 gd2 ["places", "value"] spAreTi) (gk2 : PySem.W.keepIn K (.ref g2) = true) (gb2 : Binds K gd2 ["places", "value"] []) (mg2 : mg "_are_ties" = some (.ref g2))
    (mS : mg "sorted" = none) (mt : mg "tuple" = none) : FnOk P w K mg base CX0 (k + 4) f fd ["self", "places", "ties"] (spInit C) := by
  refine C8.fn0 F scInit (fun vs H Q E h => ?_) (fun cdv A outer s H vs Q E hr h => ?_)
  · obtain ⟨x, dx, t, d, ps, ts, rfl, _⟩ := h
    rfl
  · obtain ⟨x, dx, t, d, ps, ts, rfl, hx, ht, hd, hl, nd, op, ot, pB, tB, q⟩ := h
    have hu := hu_of hr
    refine ⟨_, pss_cons (ps_set (i := 3) scInit.nd rfl (.inr rfl) (pe_ifExp (pt_cmpR op_isN (pv 2) pe_non (nomark _)) pe_dnewT (pv 2)))
      (pss_cons (ps_if (PW.pt (pw_or (pt_not (pt_val (pe_call G1 hr (by rfl) mg1 gk1 gb1 .nil pass0 (pa_cons (pv 1) pa_nil)))) (pw_or1 (pt_not (pt_val (pe_call G2 hr (by rfl) mg2 gk2 gb2 .nil pass0 (pa_cons (pv 1) (pa_cons (pv 3) pa_nil)))))))) (pss_one ps_never) pss_nil)
      (pss_cons (ps_fld (pv 0) (pe_callTy call_tuple_of (by rfl) mt (by decide +kernel) (pa_cons (pe_callB call_sortedTupS (by rfl) mS (by decide +kernel) (pa_cons (pv 1) pa_nil)) pa_nil)) (by rfl))
      (pss_one (ps_fld (pv 0) (pe_dcP (own := [("pair", 4)]) (g := gName 4) (tt := tYes) rfl hu scInit.nd (pi_list (pe_callB (call_sortedT rfl (room80 hr)) (by rfl) mS (by decide +kernel) (pa_cons (pv 3) pa_nil)))
        (blkOk_by (N := ["self", "places", "ties", "counts", "pair"]) (sc := C8.fnScope sInit) (by decide +kernel)) (fun _ _ _ _ _ => pg_name (i := 4) scInit.nd rfl (Or.inl rfl)) (fun _ _ _ _ _ => pts_nil)
        (fun _ _ _ _ _ => pv 4) (fun _ _ _ _ _ => pe_dget hu (pv 3) (pv 4) (fun _ _ => rfl))) (by rfl))))), ?_⟩
    have p9 : ps.length ≤ 9 := by
      unfold placesB at pB
      rw [Bool.and_eq_true, Bool.and_eq_true] at pB
      exact of_decide_eq_true pB.2.1
    refine ⟨.ref d, rfl, rfl, false, (by rw [decide_eq_false (show ¬ V.ref d = V.non from fun z => nomatch z)]), iteF ⟨.ref d, rfl, ?_⟩⟩
    refine ⟨.ref t, rfl, t, ps, rfl, ht, by omega, op, fun H1 s1 => ?_⟩
    rw [pB]
    refine ⟨true, rfl, ?_⟩
    refine iteF ?_
    refine ⟨.ref t, rfl, .ref d, rfl, t, d, ps, ts, rfl, s1 _ _ ht, s1 _ _ hd, hl, nd, ot, fun H2 s2 => ?_⟩
    rw [tB]
    refine ⟨true, rfl, ?_⟩
    refine iteF ?_
    have s02 := s1.trans s2
    refine ⟨.ref t, rfl, t, ps, rfl, .inl (.inl (s02 _ _ ht)), by omega, fun qs l pm srt nl => ?_⟩
    refine ⟨l, qs.map V.str, rfl, .inl ⟨.inl (.inl upd_same), fun t' nt => ?_⟩⟩
    have s3 : Same H (upd (upd H2 l (.lst (qs.map V.str))) t' (.tup (qs.map V.str))) := s02.trans ((same_upd nl).trans (same_upd nt))
    have et : (upd (upd H2 l (.lst (qs.map V.str))) t' (.tup (qs.map V.str))) t' = some (.tup (qs.map V.str)) := upd_same
    have nt0 : H t' = none := s02.free ((same_upd nl).free nt)
    generalize upd (upd H2 l (.lst (qs.map V.str))) t' (.tup (qs.map V.str)) = H3 at s3 et ⊢
    refine ⟨.ref x, rfl, x, C, dx, [], rfl, s3 _ _ hx, hC, n1, by decide, ?_⟩
    have hx4 : (upd H3 x (.ins C dx [("_places", .ref t')])) x = some (.ins C dx [("_places", .ref t')]) := upd_same
    have ne : ∀ c o, H3 c = some o → c ≠ x → (upd H3 x (.ins C dx [("_places", .ref t')])) c = some o := fun c o e hc => by
      rw [upd_ne hc]
      exact e
    have tx : t' ≠ x := ne_of et (s3 _ _ hx) (fun z => nomatch z)
    have et4 := ne _ _ et tx
    have hd4 := ne _ _ (s3 _ _ hd) (ne_of hd hx (fun z => nomatch z))
    have all4 : ∀ c o, c ≠ x → H c = some o → (upd H3 x (.ins C dx [("_places", .ref t')])) c = some o := fun c o hc e => ne _ _ (s3 _ _ e) hc
    rw [show putF ("_places" : Str) (V.ref t') [] = [(("_places" : Str), V.ref t')] from rfl]
    generalize upd H3 x (.ins C dx [("_places", .ref t')]) = H4 at hx4 et4 hd4 all4 ⊢
    refine ⟨.ref d, rfl, d, tk ts, ts.map (·.1), rfl, .inl hd4, tk_keys ts, fun p bs np ka => ?_⟩
    have s5 : Same H4 (upd H4 p (.lst (bs.map V.ref))) := same_upd np
    have ka5 : KeysAt (upd H4 p (.lst (bs.map V.ref))) bs ((ts.map (·.1)).mergeSort leP) := KeysAt.same s5 ka
    have ep5 : (upd H4 p (.lst (bs.map V.ref))) p = some (.lst (bs.map V.ref)) := upd_same
    have nL : ((ts.map (·.1)).mergeSort leP).Nodup := (List.mergeSort_perm _ _).nodup_iff.mpr nd
    have sub : ∀ k ∈ (ts.map (·.1)).mergeSort leP, k ∈ ts.map (·.1) := fun k hk => List.mem_mergeSort.mp hk
    have kl : bs.length = ((ts.map (·.1)).mergeSort leP).length := Paired.length ka
    have ll : ((ts.map (·.1)).mergeSort leP).length = ts.length := by rw [List.length_mergeSort, List.length_map]
    have est : sortTi ts = ((ts.map (·.1)).mergeSort leP).map fun k => (k, getT ts k) := rfl
    generalize (ts.map (·.1)).mergeSort leP = L at ka5 nL sub kl ll est
    generalize upd H4 p (.lst (bs.map V.ref)) = H5 at s5 ka5 ep5 ⊢
    refine ⟨p, rfl, ⟨_, .inl (.inl ep5)⟩, fun D nD => dcp_it (walk_list (xs := bs.map V.ref)) (fun i H' => H' D = some (.dT (tk ((L.take i).map fun k => (k, getT ts k)))) ∧ Same H5 H') ⟨upd_same, same_upd nD⟩ (fun i H' _ hP => .inl (.inl (hP.2 _ _ ep5))) (fun i y H0 H' hi hP hy => ?_) (fun H' hP => ?_)⟩
    · obtain ⟨eD, sm⟩ := hP
      obtain ⟨rfl, hy⟩ := hy
      rw [List.getElem?_map] at hy
      obtain ⟨b, hb, rfl⟩ := Option.map_eq_some_iff.mp hy
      obtain ⟨k, hk, eb⟩ := paired_get' ka5 hb
      obtain ⟨e, he, rfl⟩ := List.mem_map.mp (sub k (List.mem_of_getElem? hk))
      have va := val_at nd he
      have vg : V.int (getT ts e.1) = V.int e.2 := by
        rw [← tk_get, va]
        rfl
      have dg : DGet H' d (.ref b) (some (.int (getT ts e.1))) := by
        have := DGet.t (k := kP e.1) (sm _ _ (s5 _ _ hd4)) (sm _ _ eb)
        rw [va, ← vg] at this
        exact this
      have hD0 : ∀ c o, H5 c = some o → c ≠ D := fun c o e => ne_of_none e nD
      refine ⟨rfl, .ref b, rfl, .ref d, rfl, .ref b, rfl, d, _, rfl, dg, _, DPut.t (k := kP e.1) eD (sm _ _ eb) ?_, ?_, ?_⟩
      · rw [tk_len, List.length_map, List.length_take]
        exact small1000 (by omega)
      · rw [upd_same, tk_put, putT_new, List.take_add_one, hk, List.map_append]
        · rfl
        · intro g hg z
          obtain ⟨k', hk', rfl⟩ := List.mem_map.mp hg
          obtain ⟨j, hj⟩ := List.mem_iff_getElem?.mp hk'
          rw [List.getElem?_take] at hj
          by_cases hji : j < i
          · rw [if_pos hji] at hj
            have z' : k' = e.1 := z
            rw [z'] at hj
            have := nodup_ix nL hj hk
            omega
          · rw [if_neg hji] at hj
            cases hj
      · intro c o hc
        rw [upd_ne (hD0 _ _ hc)]
        exact sm c o hc
    · obtain ⟨eD, sm⟩ := hP
      rw [List.take_of_length_le (by rw [List.length_map]; omega), ← est] at eD
      refine ⟨.ref x, rfl, x, C, dx, _, rfl, sm _ _ (s5 _ _ hx4), hC, n2, (show 1 < 1000 by decide), ?_⟩
      have Dx : D ≠ x := ne_of eD (sm _ _ (s5 _ _ hx4)) (fun z => nomatch z)
      refine q _ qs pm srt (fun c o hc e => ?_) ⟨t', D, upd_same, ?_, ?_, nt0, ?_⟩
      · rw [upd_ne hc]
        exact sm _ _ (s5 _ _ (all4 c o hc e))
      · rw [upd_ne tx]
        exact sm _ _ (s5 _ _ et4)
      · rw [upd_ne Dx]
        exact eD
      · cases z : H D with
        | none => rfl
        | some o =>
          rw [s5 _ _ (all4 D o Dx z)] at nD
          cases nD
end
/-! ### data, and how it stands in the heap -/
inductive D where
  | non | bl (b : Bool) | int (i : Int) | str (x : Str) | ty (n : String) | cell
  | lst (xs : List D) | tup (xs : List D)
  | dK (ks : List Key) (vs : List D) | dT (ks : List (List Key)) (vs : List D)
  | ins (C : Addr) (ns : List Str) (vs : List D)
  | raw (v : V)
  | rng (lo hi : Int)
mutual
inductive Rep (dc : Option Addr) (F : Hp) : D → V → Prop
  | non : Rep dc F .non .non
  | bl (b : Bool) : Rep dc F (.bl b) (.bl b)
  | int (i : Int) : Rep dc F (.int i) (.int i)
  | str (x : Str) : Rep dc F (.str x) (.str x)
  | ty (n : String) : Rep dc F (.ty n) (.ty n)
  | raw (v : V) : Rep dc F (.raw v) v
  | rng {a : Addr} {lo hi : Int} : F a = some (.rng lo hi) → Rep dc F (.rng lo hi) (.ref a)
  | cell {d : Addr} : dc = some d → Rep dc F .cell (.ref d)
  | lst {a : Addr} {xs : List D} {vs : List V} : F a = some (.lst vs) → Reps dc F xs vs → Rep dc F (.lst xs) (.ref a)
  | tup {a : Addr} {xs : List D} {vs : List V} : F a = some (.tup vs) → Reps dc F xs vs → Rep dc F (.tup xs) (.ref a)
  | dK {a : Addr} {ks : List Key} {xs : List D} {vs : List V} : F a = some (.dK (ks.zip vs)) → ks.length = vs.length → Reps dc F xs vs → Rep dc F (.dK ks xs) (.ref a)
  | dT {a : Addr} {ks : List (List Key)} {xs : List D} {vs : List V} : F a = some (.dT (ks.zip vs)) → ks.length = vs.length → Reps dc F xs vs → Rep dc F (.dT ks xs) (.ref a)
  | ins {a C dx : Addr} {ns : List Str} {xs : List D} {vs : List V} : F a = some (.ins C dx (ns.zip vs)) → ns.length = vs.length → Reps dc F xs vs → Rep dc F (.ins C ns xs) (.ref a)
inductive Reps (dc : Option Addr) (F : Hp) : List D → List V → Prop
  | nil : Reps dc F [] []
  | cons {x : D} {v : V} {xs : List D} {vs : List V} : Rep dc F x v → Reps dc F xs vs → Reps dc F (x :: xs) (v :: vs)
end
section
variable {dc : Option Addr} {F F' : Hp}
mutual
theorem Rep.mono (h : ∀ a o, F a = some o → F' a = some o) : ∀ {x : D} {v : V}, Rep dc F x v → Rep dc F' x v
  | _, _, .non => .non
  | _, _, .bl b => .bl b
  | _, _, .int i => .int i
  | _, _, .str x => .str x
  | _, _, .ty x => .ty x
  | _, _, .raw x => .raw x
  | _, _, .rng e => .rng (h _ _ e)
  | _, _, .cell e => .cell e
  | _, _, .lst e r => .lst (h _ _ e) (Reps.mono h r)
  | _, _, .tup e r => .tup (h _ _ e) (Reps.mono h r)
  | _, _, .dK e l r => .dK (h _ _ e) l (Reps.mono h r)
  | _, _, .dT e l r => .dT (h _ _ e) l (Reps.mono h r)
  | _, _, .ins e l r => .ins (h _ _ e) l (Reps.mono h r)
theorem Reps.mono (h : ∀ a o, F a = some o → F' a = some o) : ∀ {xs : List D} {vs : List V}, Reps dc F xs vs → Reps dc F' xs vs
  | _, _, .nil => .nil
  | _, _, .cons r t => .cons (Rep.mono h r) (Reps.mono h t)
end
theorem Reps.length : ∀ {xs : List D} {vs : List V}, Reps dc F xs vs → xs.length = vs.length
  | _, _, .nil => rfl
  | _, _, .cons _ t => by rw [List.length_cons, List.length_cons, Reps.length t]
theorem Reps.get : ∀ {xs : List D} {vs : List V} {i : Nat} {x : D}, Reps dc F xs vs → xs[i]? = some x → ∃ v, vs[i]? = some v ∧ Rep dc F x v
  | _, _, _, _, .nil, e => by simp at e
  | _, _, 0, _, .cons r _, e => by simp at e; subst e; exact ⟨_, rfl, r⟩
  | _, _, i + 1, x, .cons _ t, e => by
    obtain ⟨u, h1, h2⟩ := Reps.get (i := i) (x := x) t (by simpa using e)
    exact ⟨u, by simpa using h1, h2⟩
theorem Reps.get' : ∀ {xs : List D} {vs : List V} {i : Nat} {v : V}, Reps dc F xs vs → vs[i]? = some v → ∃ x, xs[i]? = some x ∧ Rep dc F x v
  | _, _, _, _, .nil, e => by simp at e
  | _, _, 0, _, .cons r _, e => by simp at e; subst e; exact ⟨_, rfl, r⟩
  | _, _, i + 1, x, .cons _ t, e => by
    obtain ⟨u, h1, h2⟩ := Reps.get' (i := i) (v := x) t (by simpa using e)
    exact ⟨u, by simpa using h1, h2⟩
theorem Reps.app : ∀ {xs ys : List D} {vs ws : List V}, Reps dc F xs vs → Reps dc F ys ws → Reps dc F (xs ++ ys) (vs ++ ws)
  | _, _, _, _, .nil, s => s
  | _, _, _, _, .cons r t, s => .cons r (Reps.app t s)
theorem Reps.take : ∀ {xs : List D} {vs : List V} (n : Nat), Reps dc F xs vs → Reps dc F (xs.take n) (vs.take n)
  | _, _, 0, _ => .nil
  | _, _, _ + 1, .nil => .nil
  | _, _, n + 1, .cons r t => .cons r (Reps.take n t)
theorem Reps.drop : ∀ {xs : List D} {vs : List V} (n : Nat), Reps dc F xs vs → Reps dc F (xs.drop n) (vs.drop n)
  | _, _, 0, r => r
  | _, _, _ + 1, .nil => .nil
  | _, _, n + 1, .cons _ t => Reps.drop n t
theorem Reps.nil_iff {xs : List D} : Reps dc F xs [] → xs = [] := fun h => by cases h; rfl
theorem Reps.strs : ∀ (ps : List Str), Reps dc F (ps.map D.str) (ps.map V.str)
  | [] => .nil
  | p :: r => .cons (.str p) (Reps.strs r)
theorem Reps.ints : ∀ (ps : List Int), Reps dc F (ps.map D.int) (ps.map V.int)
  | [] => .nil
  | p :: r => .cons (.int p) (Reps.ints r)
theorem Reps.strs_eq : ∀ {ps : List Str} {vs : List V}, Reps dc F (ps.map D.str) vs → vs = ps.map V.str
  | [], _, h => by cases h; rfl
  | p :: r, _, h => by
    cases h with
    | cons a b => cases a; rw [Reps.strs_eq b]; rfl
theorem Reps.ints_eq : ∀ {ps : List Int} {vs : List V}, Reps dc F (ps.map D.int) vs → vs = ps.map V.int
  | [], _, h => by cases h; rfl
  | p :: r, _, h => by
    cases h with
    | cons a b => cases a; rw [Reps.ints_eq b]; rfl
end
/-- the tables of code objects that a run may fill: where they stand, and the name that all of their code objects bear -/
class Tbs where
  T : List (Addr × Str)
variable [Tbs]
/-- what F says may be read in H -/
def SubO (H : Hp) (a : Addr) : HO → Prop
  | .lst xs => H a = some (.lst xs)
  | .tup xs => H a = some (.tup xs)
  | .dK kvs => Rd H a (.dK kvs)
  | .dT kvs => Rd H a (.dT kvs)
  | .ins C dx fs => H a = some (.ins C dx fs)
  | .rng lo hi => H a = some (.rng lo hi)
  | .tbl _ => ∃ ps, H a = some (.tbl ps)
  | .ext φ => H a = some (.ext φ)
  | _ => False
/-- a table may have grown, all else is as it was -/
def Kp : HO → Option HO → Prop
  | .tbl _, x => ∃ ps, x = some (.tbl ps)
  | o, x => x = some o
theorem kp_of {o : HO} {x : Option HO} (h : x = some o) : Kp o x := by
  cases o with
  | tbl ps => exact ⟨ps, h⟩
  | _ => exact h
theorem Kp.ne {o : HO} {x : Option HO} (h : Kp o x) (n : x = none) : False := by
  cases o with
  | tbl ps => obtain ⟨q, e⟩ := h; rw [n] at e; cases e
  | _ => rw [show x = some _ from h] at n; cases n
theorem Kp.on {o : HO} {x y : Option HO} (h : Kp o x) (f : ∀ u, x = some u → Kp u y) : Kp o y := by
  cases o with
  | tbl ps => obtain ⟨q, e⟩ := h; exact (f _ e : Kp (.tbl q) y)
  | _ => exact f _ h
/-- what stands there now, if it is no table -/
theorem Kp.eq {o u : HO} {x : Option HO} (h : Kp o x) (e : x = some u) (n : ∀ ps, u ≠ .tbl ps) : o = u := by
  cases o with
  | tbl ps => obtain ⟨q, e'⟩ := h; rw [e] at e'; cases e'; exact absurd rfl (n q)
  | _ => rw [show x = some _ from h] at e; cases e; rfl
def TbO (F H : Hp) (P : Addr) (q : Str) : Prop := F P = some (.tbl #[]) ∧ ∃ ps : Array Value, H P = some (.tbl ps) ∧ TriplesOk ps.toList ∧ ∀ (pos : Pos) (cv : Value), codeAmong pos ps.toList = some cv → ∃ c, cv = .ref c ∧ F c = some (LamX.CodeO c q)
structure Pre (dc : Option Addr) (F H : Hp) : Prop where
  sub : ∀ a o, F a = some o → SubO H a o
  dice : ∀ d, dc = some d → DiceAt H d ∧ F d = none
  tabs : ∀ p ∈ Tbs.T, TbO F H p.1 p.2
theorem TbO.on {F H F' H' : Hp} {P : Addr} {q : Str} (t : TbO F H P q) (f : ∀ a o, F a = some o → F a = some (.tbl #[]) ∨ F a = some (LamX.CodeO a q) → F' a = some o) (h : ∀ ps, F P = some (.tbl #[]) → H P = some (.tbl ps) → H' P = some (.tbl ps)) : TbO F' H' P q := by
  obtain ⟨e, ps, h1, h2, h3⟩ := t
  refine ⟨f _ _ e (.inl e), ps, h ps e h1, h2, fun pos cv hc => ?_⟩
  obtain ⟨c, e1, e2⟩ := h3 pos cv hc
  exact ⟨c, e1, f _ _ e2 (.inr e2)⟩
/-- no table and no code object -/
def Own : HO → Prop
  | .tbl _ => False
  | .ext _ => False
  | _ => True
theorem own_kp {o : HO} {x : Option HO} (n : Own o) (h : Kp o x) : x = some o := by
  cases o with
  | tbl ps => exact n.elim
  | _ => exact h
structure Ext (dc : Option Addr) (F H F' H' : Hp) : Prop where
  pre : Pre dc F' H'
  keep : ∀ a o, dc ≠ some a → H a = some o → Kp o (H' a)
  fsub : ∀ a o, F a = some o → F' a = some o
  fnew : ∀ a o, F' a = some o → F a = some o ∨ H a = none ∨ ∃ xs, H a = some (.tup xs)
theorem SubO.ex {H : Hp} {a : Addr} {o : HO} (h : SubO H a o) : ∃ u, H a = some u := by
  cases o with
  | lst _ => exact ⟨_, h⟩
  | tup _ => exact ⟨_, h⟩
  | dK _ => rcases h with h | ⟨_, h⟩ <;> exact ⟨_, h⟩
  | dT _ => rcases h with h | ⟨_, h⟩ <;> exact ⟨_, h⟩
  | ins _ _ _ => exact ⟨_, h⟩
  | rng _ _ => exact ⟨_, h⟩
  | tbl _ => obtain ⟨ps, h⟩ := h; exact ⟨_, h⟩
  | ext _ => exact ⟨_, h⟩
  | _ => exact h.elim
theorem SubO.keepK {H H' : Hp} {a : Addr} {o : HO} (h : SubO H a o) (k : ∀ u, H a = some u → Kp u (H' a)) : SubO H' a o := by
  cases o with
  | lst _ => exact k _ h
  | tup _ => exact k _ h
  | dK _ => exact h.elim (fun h => .inl (k _ h)) fun ⟨o, h⟩ => .inr ⟨o, k _ h⟩
  | dT _ => exact h.elim (fun h => .inl (k _ h)) fun ⟨o, h⟩ => .inr ⟨o, k _ h⟩
  | ins _ _ _ => exact k _ h
  | rng _ _ => exact k _ h
  | tbl _ => obtain ⟨ps, h⟩ := h; exact (k _ h : Kp (.tbl ps) (H' a))
  | ext _ => exact k _ h
  | _ => exact h.elim
theorem SubO.keep {H H' : Hp} {a : Addr} {o : HO} (h : SubO H a o) (k : ∀ u, H a = some u → H' a = some u) : SubO H' a o := h.keepK fun u q => kp_of (k u q)
section
variable {dc : Option Addr} {F F1 F2 H H1 H2 : Hp}
theorem Ext.refl (p : Pre dc F H) : Ext dc F H F H := ⟨p, fun _ _ _ h => kp_of h, fun _ _ h => h, fun _ _ h => .inl h⟩
theorem Ext.free (e : Ext dc F H F1 H1) (p : Pre dc F H) {a : Addr} (h : H1 a = none) : H a = none := by
  cases q : H a with
  | none => rfl
  | some o =>
    by_cases hd : dc = some a
    · obtain ⟨⟨x, y, z, hz⟩, _⟩ := e.pre.dice a hd
      rw [hz] at h
      cases h
    · exact ((e.keep a o hd q).ne h).elim
theorem Ext.trans (p : Pre dc F H) (a : Ext dc F H F1 H1) (b : Ext dc F1 H1 F2 H2) : Ext dc F H F2 H2 :=
  ⟨b.pre, fun c o hc h => (a.keep c o hc h).on fun u q => b.keep c u hc q, fun c o h => b.fsub c o (a.fsub c o h), fun c o h => by
    rcases b.fnew c o h with h | h | ⟨xs, h⟩
    · exact a.fnew c o h
    · exact .inr (.inl (a.free p h))
    · cases q : H c with
      | none => exact .inr (.inl rfl)
      | some u =>
        by_cases hd : dc = some c
        · obtain ⟨⟨x, y, z, hz⟩, _⟩ := a.pre.dice c hd
          rw [hz] at h
          cases h
        · cases (a.keep c u hd q).eq h fun ps z => nomatch z
          exact .inr (.inr ⟨xs, rfl⟩)⟩
theorem Ext.rep (e : Ext dc F H F1 H1) {x : D} {v : V} (r : Rep dc F x v) : Rep dc F1 x v := r.mono e.fsub
theorem Ext.reps (e : Ext dc F H F1 H1) {x : List D} {v : List V} (r : Reps dc F x v) : Reps dc F1 x v := r.mono e.fsub
/-- H alone has grown, F is as it was -/
theorem Ext.grow (p : Pre dc F H) (k : Same H H1) : Ext dc F H F H1 :=
  ⟨⟨fun a o h => (p.sub a o h).keep fun u q => k _ _ q, fun d e => let ⟨⟨x, y, z, h⟩, n⟩ := p.dice d e; ⟨⟨x, y, z, k _ _ h⟩, n⟩, fun q hq => (p.tabs q hq).on (fun _ _ h _ => h) fun _ _ h => k _ _ h⟩, fun a o _ h => kp_of (k a o h), fun _ _ h => h, fun _ _ h => .inl h⟩
/-- where a table or a code object stands, nothing else does -/
theorem Pre.tne (p : Pre dc F H) {b a : Addr} {q : Str} {o : HO} (z : F b = some (.tbl #[]) ∨ F b = some (LamX.CodeO b q)) (h : H a = some o) (n : Own o) : b ≠ a := by
  rintro rfl
  rcases z with z | z
  · obtain ⟨ps, hs⟩ := p.sub _ _ z
    rw [hs] at h
    cases h
    exact n
  · have hs : H b = some (LamX.CodeO b q) := p.sub _ _ z
    rw [hs] at h
    cases h
    exact n
/-- a new object -/
theorem Ext.new (p : Pre dc F H) {a : Addr} {o : HO} (n : H a = none) (so : SubO (upd H a o) a o) : Ext dc F H (upd F a o) (upd H a o) := by
  have hF : ∀ b u, F b = some u → b ≠ a := fun b u h z => by
    obtain ⟨q, hq⟩ := (p.sub b u h).ex
    rw [z, n] at hq
    cases hq
  have hH : ∀ b u, H b = some u → b ≠ a := fun b u h => ne_of_none h n
  refine ⟨⟨fun b u h => ?_, fun d e => ?_, fun q hq => (p.tabs q hq).on (fun b u h _ => by rw [upd_ne (hF b u h)]; exact h) fun ps _ h => by rw [upd_ne (hH _ _ h)]; exact h⟩, fun b u _ h => kp_of ?_, fun b u h => ?_, fun b u h => ?_⟩
  · by_cases hb : b = a
    · subst hb
      rw [upd_same] at h
      cases h
      exact so
    · rw [upd_ne hb] at h
      exact (p.sub b u h).keep fun w q => by rw [upd_ne hb]; exact q
  · obtain ⟨⟨x, y, z, hd⟩, nf⟩ := p.dice d e
    have hda := hH _ _ hd
    exact ⟨⟨x, y, z, by rw [upd_ne hda]; exact hd⟩, by rw [upd_ne hda]; exact nf⟩
  · rw [upd_ne (hH b u h)]
    exact h
  · rw [upd_ne (hF b u h)]
    exact h
  · by_cases hb : b = a
    · subst hb
      exact .inr (.inl n)
    · rw [upd_ne hb] at h
      exact .inl h
/-- a tuple that stands is read -/
theorem Ext.seen (p : Pre dc F H) {a : Addr} {xs : List V} (h : H a = some (.tup xs)) : Ext dc F H (upd F a (.tup xs)) H := by
  refine ⟨⟨fun b u q => ?_, fun d e => ?_, fun q hq => (p.tabs q hq).on (fun b u h' z => by rw [upd_ne (p.tne z h trivial)]; exact h') fun ps _ h => h⟩, fun b u _ h => kp_of h, fun b u q => ?_, fun b u q => ?_⟩
  · by_cases hb : b = a
    · subst hb
      rw [upd_same] at q
      cases q
      exact h
    · rw [upd_ne hb] at q
      exact p.sub b u q
  · obtain ⟨⟨x, y, z, hd⟩, nf⟩ := p.dice d e
    exact ⟨⟨x, y, z, hd⟩, by rw [upd_ne (ne_of hd h (fun z => nomatch z))]; exact nf⟩
  · by_cases hb : b = a
    · subst hb
      obtain ⟨v, hv⟩ := (p.sub b u q).ex
      have hs := p.sub b u q
      rw [upd_same]
      cases u with
      | tup ys => rw [show H b = some (.tup ys) from hs] at h; cases h; rfl
      | lst ys => rw [show H b = some (.lst ys) from hs] at h; cases h
      | ins _ _ _ => rw [show H b = some (.ins _ _ _) from hs] at h; cases h
      | rng _ _ => rw [show H b = some (.rng _ _) from hs] at h; cases h
      | tbl _ => obtain ⟨ps, hs⟩ := hs; rw [hs] at h; cases h
      | ext _ => rw [show H b = some (.ext _) from hs] at h; cases h
      | dK kvs =>
        rcases (show Rd H b (.dK kvs) from hs) with z | ⟨_, z⟩
        · rw [z] at h; cases h
        · rw [z] at h; cases h
      | dT kvs =>
        rcases (show Rd H b (.dT kvs) from hs) with z | ⟨_, z⟩
        · rw [z] at h; cases h
        · rw [z] at h; cases h
      | _ => exact hs.elim
    · rw [upd_ne hb]
      exact q
  · by_cases hb : b = a
    · subst hb
      exact .inr (.inr ⟨xs, h⟩)
    · rw [upd_ne hb] at q
      exact .inl q
end
/-! ### the slots -/
abbrev DEnv := List (Option D)
def Slots (dc : Option Addr) (F : Hp) (ρ : DEnv) (σ : L2.St) : Prop := ρ.length = σ.length ∧ ∀ (i : Nat) (x : D), ρ[i]? = some (some x) → ∃ v, σ[i]? = some (some v) ∧ Rep dc F x v
theorem Slots.mono {dc : Option Addr} {F F' : Hp} {ρ : DEnv} {σ : L2.St} (s : Slots dc F ρ σ) (h : ∀ a o, F a = some o → F' a = some o) : Slots dc F' ρ σ := ⟨s.1, fun i x e => let ⟨v, h1, h2⟩ := s.2 i x e; ⟨v, h1, h2.mono h⟩⟩
/-! ### the judgements by data -/
abbrev DT := DEnv → (D → Prop) → Prop
abbrev DTA := DEnv → (List D → Prop) → Prop
abbrev DTB := DEnv → (Bool → Prop) → Prop
/-- what is wanted of a value, told by its data -/
def KV' (dc : Option Addr) (F H : Hp) (Q : VK) : D → Prop := fun x => ∀ v F' H', Ext dc F H F' H' → Rep dc F' x v → Q v H'
def KB (dc : Option Addr) (F H : Hp) (Q : Bool → Hp → Prop) : Bool → Prop := fun b => ∀ F' H', Ext dc F H F' H' → Q b H'
def KA (dc : Option Addr) (F H : Hp) (Q : List V → Hp → Prop) : List D → Prop := fun xs => ∀ vs F' H', Ext dc F H F' H' → Reps dc F' xs vs → Q vs H'
structure DE (X : Cx) (dc : Option Addr) (e : Expr) (d : DT) : Prop where
  mono : ∀ ρ P P', (∀ x, P x → P' x) → d ρ P → d ρ P'
  run : ∃ t, PE X e t ∧ ∀ ρ σ F H Q, Pre dc F H → Slots dc F ρ σ → d ρ (KV' dc F H Q) → t σ H Q
structure DA (X : Cx) (dc : Option Addr) (es : List Expr) (d : DTA) : Prop where
  mono : ∀ ρ P P', (∀ x, P x → P' x) → d ρ P → d ρ P'
  run : ∃ t, PA X es t ∧ ∀ ρ σ F H Q, Pre dc F H → Slots dc F ρ σ → d ρ (KA dc F H Q) → t σ H Q
structure DC (X : Cx) (dc : Option Addr) (e : Expr) (d : DTB) : Prop where
  mono : ∀ ρ P P', (∀ x, P x → P' x) → d ρ P → d ρ P'
  run : ∃ t, PT X e t ∧ ∀ ρ σ F H Q, Pre dc F H → Slots dc F ρ σ → d ρ (KB dc F H Q) → t σ H Q
structure DW (X : Cx) (dc : Option Addr) (e : Expr) (d : DTB) : Prop where
  mono : ∀ ρ P P', (∀ x, P x → P' x) → d ρ P → d ρ P'
  run : ∃ t, PW X e t ∧ ∀ ρ σ F H Q, Pre dc F H → Slots dc F ρ σ → d ρ (KB dc F H Q) → t σ H Q
section
variable {X : Cx} {dc : Option Addr} {F H F1 H1 : Hp}
theorem KV'.on {Q : VK} {x : D} (p : Pre dc F H) (e : Ext dc F H F1 H1) (h : KV' dc F H Q x) : KV' dc F1 H1 Q x := fun v F' H' e' r => h v F' H' (e.trans p e') r
theorem KB.on {Q : Bool → Hp → Prop} {x : Bool} (p : Pre dc F H) (e : Ext dc F H F1 H1) (h : KB dc F H Q x) : KB dc F1 H1 Q x := fun F' H' e' => h F' H' (e.trans p e')
theorem KA.on {Q : List V → Hp → Prop} {x : List D} (p : Pre dc F H) (e : Ext dc F H F1 H1) (h : KA dc F H Q x) : KA dc F1 H1 Q x := fun v F' H' e' r => h v F' H' (e.trans p e') r
theorem KV'.now {Q : VK} {x : D} {v : V} (p : Pre dc F H) (r : Rep dc F x v) (h : KV' dc F H Q x) : Q v H := h v F H (.refl p) r
theorem DW.toC {e : Expr} {d : DTB} (h : DW X dc e d) : DC X dc e d := ⟨h.mono, let ⟨t, h1, h2⟩ := h.run; ⟨t, h1.pt, h2⟩⟩
end
/-! ### getting at a judgement -/
section
variable {X : Cx} {dc : Option Addr}
theorem DE.get {e : Expr} {d : DT} (h : DE X dc e d) : ∃ t, PE X e t ∧ ∀ {ρ : DEnv} {σ : L2.St} {F H : Hp} {G : VK} {K : D → Prop}, Pre dc F H → Slots dc F ρ σ → d ρ K → (∀ x v F1 H1, K x → Ext dc F H F1 H1 → Rep dc F1 x v → G v H1) → t σ H G := by
  obtain ⟨m, t, p, r⟩ := h
  exact ⟨t, p, fun hp hs hd step => r _ _ _ _ _ hp hs (m _ _ _ (fun x k v F1 H1 e q => step x v F1 H1 k e q) hd)⟩
theorem DA.get {e : List Expr} {d : DTA} (h : DA X dc e d) : ∃ t, PA X e t ∧ ∀ {ρ : DEnv} {σ : L2.St} {F H : Hp} {G : List V → Hp → Prop} {K : List D → Prop}, Pre dc F H → Slots dc F ρ σ → d ρ K → (∀ x v F1 H1, K x → Ext dc F H F1 H1 → Reps dc F1 x v → G v H1) → t σ H G := by
  obtain ⟨m, t, p, r⟩ := h
  exact ⟨t, p, fun hp hs hd step => r _ _ _ _ _ hp hs (m _ _ _ (fun x k v F1 H1 e q => step x v F1 H1 k e q) hd)⟩
theorem DC.get {e : Expr} {d : DTB} (h : DC X dc e d) : ∃ t, PT X e t ∧ ∀ {ρ : DEnv} {σ : L2.St} {F H : Hp} {G : Bool → Hp → Prop} {K : Bool → Prop}, Pre dc F H → Slots dc F ρ σ → d ρ K → (∀ x F1 H1, K x → Ext dc F H F1 H1 → G x H1) → t σ H G := by
  obtain ⟨m, t, p, r⟩ := h
  exact ⟨t, p, fun hp hs hd step => r _ _ _ _ _ hp hs (m _ _ _ (fun x k F1 H1 e => step x F1 H1 k e) hd)⟩
theorem DW.get {e : Expr} {d : DTB} (h : DW X dc e d) : ∃ t, PW X e t ∧ ∀ {ρ : DEnv} {σ : L2.St} {F H : Hp} {G : Bool → Hp → Prop} {K : Bool → Prop}, Pre dc F H → Slots dc F ρ σ → d ρ K → (∀ x F1 H1, K x → Ext dc F H F1 H1 → G x H1) → t σ H G := by
  obtain ⟨m, t, p, r⟩ := h
  exact ⟨t, p, fun hp hs hd step => r _ _ _ _ _ hp hs (m _ _ _ (fun x k F1 H1 e => step x F1 H1 k e) hd)⟩
/-- two readings of one expression -/
theorem pe_or2 {e : Expr} {t u : TE} (h : PE X e t) (g : PE X e u) : PE X e (fun σ H Q => t σ H Q ∨ u σ H Q) := ⟨fun pins s σ H Q I q => q.elim (h.run pins s σ H Q I) (g.run pins s σ H Q I)⟩
theorem DE.or {e : Expr} {t u : DT} (h : DE X dc e t) (g : DE X dc e u) : DE X dc e (fun ρ Q => t ρ Q ∨ u ρ Q) := by
  obtain ⟨m1, t1, p1, r1⟩ := h
  obtain ⟨m2, t2, p2, r2⟩ := g
  refine ⟨fun ρ P P' hP q => q.elim (fun q => .inl (m1 _ _ _ hP q)) fun q => .inr (m2 _ _ _ hP q), _, pe_or2 p1 p2, fun ρ σ F H Q hp hs q => q.elim (fun q => .inl (r1 _ _ _ _ _ hp hs q)) fun q => .inr (r2 _ _ _ _ _ hp hs q)⟩
end
/-! ### the forms of data -/
def asInt (x : D) (Q : Int → Prop) : Prop := match x with | .int i => Q i | _ => False
def asStr (x : D) (Q : Str → Prop) : Prop := match x with | .str i => Q i | _ => False
def asBl (x : D) (Q : Bool → Prop) : Prop := match x with | .bl i => Q i | _ => False
def asLst (x : D) (Q : List D → Prop) : Prop := match x with | .lst i => Q i | _ => False
def asTup (x : D) (Q : List D → Prop) : Prop := match x with | .tup i => Q i | _ => False
/-- the items of a list or a tuple -/
def asSeq (x : D) (Q : List D → Prop) : Prop := match x with | .lst i => Q i | .tup i => Q i | _ => False
def asDT (x : D) (Q : List (List Key) → List D → Prop) : Prop := match x with | .dT k v => Q k v | _ => False
def asIns (x : D) (Q : Addr → List Str → List D → Prop) : Prop := match x with | .ins C n v => Q C n v | _ => False
theorem asInt.inv {x : D} {Q : Int → Prop} (h : asInt x Q) : ∃ i, x = .int i ∧ Q i := by cases x <;> first | exact ⟨_, rfl, h⟩ | exact h.elim
theorem asStr.inv {x : D} {Q : Str → Prop} (h : asStr x Q) : ∃ i, x = .str i ∧ Q i := by cases x <;> first | exact ⟨_, rfl, h⟩ | exact h.elim
theorem asBl.inv {x : D} {Q : Bool → Prop} (h : asBl x Q) : ∃ i, x = .bl i ∧ Q i := by cases x <;> first | exact ⟨_, rfl, h⟩ | exact h.elim
theorem asLst.inv {x : D} {Q : List D → Prop} (h : asLst x Q) : ∃ i, x = .lst i ∧ Q i := by cases x <;> first | exact ⟨_, rfl, h⟩ | exact h.elim
theorem asTup.inv {x : D} {Q : List D → Prop} (h : asTup x Q) : ∃ i, x = .tup i ∧ Q i := by cases x <;> first | exact ⟨_, rfl, h⟩ | exact h.elim
theorem asSeq.inv {x : D} {Q : List D → Prop} (h : asSeq x Q) : ∃ i, (x = .lst i ∨ x = .tup i) ∧ Q i := by cases x <;> first | exact ⟨_, .inl rfl, h⟩ | exact ⟨_, .inr rfl, h⟩ | exact h.elim
theorem asDT.inv {x : D} {Q : List (List Key) → List D → Prop} (h : asDT x Q) : ∃ k v, x = .dT k v ∧ Q k v := by cases x <;> first | exact ⟨_, _, rfl, h⟩ | exact h.elim
theorem asIns.inv {x : D} {Q : Addr → List Str → List D → Prop} (h : asIns x Q) : ∃ C n v, x = .ins C n v ∧ Q C n v := by cases x <;> first | exact ⟨_, _, _, rfl, h⟩ | exact h.elim
theorem asInt.mono {x : D} {P Q : Int → Prop} (h : ∀ i, P i → Q i) (p : asInt x P) : asInt x Q := by cases x <;> first | exact h _ p | exact p
theorem asStr.mono {x : D} {P Q : Str → Prop} (h : ∀ i, P i → Q i) (p : asStr x P) : asStr x Q := by cases x <;> first | exact h _ p | exact p
theorem asBl.mono {x : D} {P Q : Bool → Prop} (h : ∀ i, P i → Q i) (p : asBl x P) : asBl x Q := by cases x <;> first | exact h _ p | exact p
theorem asLst.mono {x : D} {P Q : List D → Prop} (h : ∀ i, P i → Q i) (p : asLst x P) : asLst x Q := by cases x <;> first | exact h _ p | exact p
theorem asTup.mono {x : D} {P Q : List D → Prop} (h : ∀ i, P i → Q i) (p : asTup x P) : asTup x Q := by cases x <;> first | exact h _ p | exact p
theorem asSeq.mono {x : D} {P Q : List D → Prop} (h : ∀ i, P i → Q i) (p : asSeq x P) : asSeq x Q := by cases x <;> first | exact h _ p | exact p
theorem asDT.mono {x : D} {P Q : List (List Key) → List D → Prop} (h : ∀ i j, P i j → Q i j) (p : asDT x P) : asDT x Q := by cases x <;> first | exact h _ _ p | exact p
theorem asIns.mono {x : D} {P Q : Addr → List Str → List D → Prop} (h : ∀ C i j, P C i j → Q C i j) (p : asIns x P) : asIns x Q := by cases x <;> first | exact h _ _ _ p | exact p
theorem Rep.seqL {dc : Option Addr} {F H : Hp} {K : PySem.W.Frag} {xs : List D} {v : V} (p : Pre dc F H) (r : Rep dc F (.lst xs) v) : ∃ a vs, v = .ref a ∧ H a = some (.lst vs) ∧ Reps dc F xs vs := by
  cases r with
  | lst e r => exact ⟨_, _, rfl, p.sub _ _ e, r⟩
theorem Rep.seqT {dc : Option Addr} {F H : Hp} {xs : List D} {v : V} (p : Pre dc F H) (r : Rep dc F (.tup xs) v) : ∃ a vs, v = .ref a ∧ H a = some (.tup vs) ∧ Reps dc F xs vs := by
  cases r with
  | tup e r => exact ⟨_, _, rfl, p.sub _ _ e, r⟩
theorem Rep.seq {dc : Option Addr} {F H : Hp} {K : PySem.W.Frag} {xs : List D} {x : D} {v : V} (p : Pre dc F H) (r : Rep dc F x v) (h : x = .lst xs ∨ x = .tup xs) : ∃ a vs, v = .ref a ∧ (SqL K H a vs ∨ SqT K H a vs) ∧ Reps dc F xs vs := by
  rcases h with rfl | rfl
  · obtain ⟨a, vs, h1, h2, h3⟩ := r.seqL (K := K) p
    exact ⟨a, vs, h1, .inl (.of h2), h3⟩
  · obtain ⟨a, vs, h1, h2, h3⟩ := r.seqT p
    exact ⟨a, vs, h1, .inr (.of h2), h3⟩
theorem Rep.dTr {dc : Option Addr} {F H : Hp} {ks : List (List Key)} {xs : List D} {v : V} (p : Pre dc F H) (r : Rep dc F (.dT ks xs) v) : ∃ a vs, v = .ref a ∧ F a = some (.dT (ks.zip vs)) ∧ Rd H a (.dT (ks.zip vs)) ∧ ks.length = vs.length ∧ Reps dc F xs vs := by
  cases r with
  | dT e l r => exact ⟨_, _, rfl, e, p.sub _ _ e, l, r⟩
theorem Rep.dKr {dc : Option Addr} {F H : Hp} {ks : List Key} {xs : List D} {v : V} (p : Pre dc F H) (r : Rep dc F (.dK ks xs) v) : ∃ a vs, v = .ref a ∧ F a = some (.dK (ks.zip vs)) ∧ Rd H a (.dK (ks.zip vs)) ∧ ks.length = vs.length ∧ Reps dc F xs vs := by
  cases r with
  | dK e l r => exact ⟨_, _, rfl, e, p.sub _ _ e, l, r⟩
theorem Rep.insr {dc : Option Addr} {F H : Hp} {C : Addr} {ns : List Str} {xs : List D} {v : V} (p : Pre dc F H) (r : Rep dc F (.ins C ns xs) v) : ∃ a dx vs, v = .ref a ∧ F a = some (.ins C dx (ns.zip vs)) ∧ H a = some (.ins C dx (ns.zip vs)) ∧ ns.length = vs.length ∧ Reps dc F xs vs := by
  cases r with
  | ins e l r => exact ⟨_, _, _, rfl, e, p.sub _ _ e, l, r⟩
/-- a new list, a new tuple -/
theorem Ext.lst {dc : Option Addr} {F H : Hp} {a : Addr} {xs : List D} {vs : List V} (p : Pre dc F H) (n : H a = none) (r : Reps dc F xs vs) : Ext dc F H (upd F a (.lst vs)) (upd H a (.lst vs)) ∧ Rep dc (upd F a (.lst vs)) (.lst xs) (.ref a) := by
  have e := Ext.new p (o := .lst vs) n upd_same
  exact ⟨e, .lst upd_same (e.reps r)⟩
theorem Ext.tup {dc : Option Addr} {F H : Hp} {a : Addr} {xs : List D} {vs : List V} (p : Pre dc F H) (n : H a = none) (r : Reps dc F xs vs) : Ext dc F H (upd F a (.tup vs)) (upd H a (.tup vs)) ∧ Rep dc (upd F a (.tup vs)) (.tup xs) (.ref a) := by
  have e := Ext.new p (o := .tup vs) n upd_same
  exact ⟨e, .tup upd_same (e.reps r)⟩
/-! ### expressions -/
section
variable {X : Cx} {dc : Option Addr}
def dVar (i : Nat) : DT := fun ρ Q => match ρ[i]? with | some (some x) => Q x | _ => False
theorem dVar_inv {i : Nat} {ρ : DEnv} {Q : D → Prop} (h : dVar i ρ Q) : ∃ x, ρ[i]? = some (some x) ∧ Q x := by
  unfold dVar at h
  split at h
  · exact ⟨_, by assumption, h⟩
  · exact h.elim
theorem de_var (i : Nat) {x : Str} {pos : Pos} (hN : X.N[i]? = some x := by rfl) (hv : Vis X.env.scope x := by first | exact Or.inl rfl | exact Or.inr (Or.inl rfl) | exact Or.inr (Or.inr rfl)) (hd : (x == ("__debug__" : Str)) = false := by decide)
    (hcd : (x == ("__classdict__" : Str)) = false := by decide) : DE X dc (.Name x pos) (dVar i) := by
  refine ⟨fun ρ P P' hP h => ?_, _, pe_var hN hv hd hcd, fun ρ σ F H Q p s h => ?_⟩
  · obtain ⟨x, e, h⟩ := dVar_inv h
    unfold dVar
    rw [e]
    exact hP _ h
  · obtain ⟨x, e, h⟩ := dVar_inv h
    obtain ⟨v, e2, r⟩ := s.2 i x e
    exact ⟨v, e2, h.now p r⟩
def dC (x : D) : DT := fun _ Q => Q x
theorem de_int {i : Int} {j pos} : DE X dc (.Constant (.int i) j pos) (dC (.int i)) := ⟨fun _ _ _ h => h _, _, pe_int, fun _ _ _ _ _ p _ h => KV'.now p (.int _) h⟩
theorem de_bl {i : Bool} {j pos} : DE X dc (.Constant (.bool i) j pos) (dC (.bl i)) := ⟨fun _ _ _ h => h _, _, pe_bl, fun _ _ _ _ _ p _ h => KV'.now p (.bl _) h⟩
theorem de_str {i : Str} {j pos} : DE X dc (.Constant (.str i) j pos) (dC (.str i)) := ⟨fun _ _ _ h => h _, _, pe_str, fun _ _ _ _ _ p _ h => KV'.now p (.str _) h⟩
/-- a module's constant; a class -/
theorem de_globI {x : Str} {i : Int} {t : Tok} {pos : Pos} (hg : Gl X x) (hm : X.mg x = some (.int i t)) (hd : (x == ("__debug__" : Str)) = false := by decide) : DE X dc (.Name x pos) (dC (.int i)) :=
  ⟨fun _ _ _ h => h _, _, pe_glob hg hm (v := .int i) ⟨_, rfl⟩ hd, fun _ _ _ _ _ p _ h => KV'.now p (.int _) h⟩
theorem de_globR {x : Str} {a : Addr} {pos : Pos} (hg : Gl X x) (hm : X.mg x = some (.ref a)) (hd : (x == ("__debug__" : Str)) = false := by decide) : DE X dc (.Name x pos) (dC (.raw (.ref a))) :=
  ⟨fun _ _ _ h => h _, _, pe_glob hg hm (v := .ref a) rfl hd, fun _ _ _ _ _ p _ h => KV'.now p (.raw _) h⟩
/-- a two-place operation by data -/
structure OpD (X : Cx) (dc : Option Addr) (f : Value → Value → Sem Value) (g : D → D → (D → Prop) → Prop) : Prop where
  mono : ∀ x y P P', (∀ z, P z → P' z) → g x y P → g x y P'
  run : ∃ r, OpR X f r ∧ ∀ F H x y v u Q, Pre dc F H → Rep dc F x v → Rep dc F y u → g x y (KV' dc F H Q) → r v u H Q
theorem OpD.or {f : Value → Value → Sem Value} {g g' : D → D → (D → Prop) → Prop} (h : OpD X dc f g) (h' : OpD X dc f g') : OpD X dc f (fun x y Q => g x y Q ∨ g' x y Q) := by
  obtain ⟨m, r, o, q⟩ := h
  obtain ⟨m', r', o', q'⟩ := h'
  exact ⟨fun x y P P' hP z => z.elim (fun z => .inl (m _ _ _ _ hP z)) fun z => .inr (m' _ _ _ _ hP z), fun x y H Q => r x y H Q ∨ r' x y H Q, fun pins s σ H x y v u Q I rx ry z => Or.elim z (o pins s σ H x y v u Q I rx ry) (o' pins s σ H x y v u Q I rx ry),
    fun F H x y v u Q p rx ry z => z.elim (fun z => .inl (q F H x y v u Q p rx ry z)) fun z => .inr (q' F H x y v u Q p rx ry z)⟩
theorem OpD.imp {f : Value → Value → Sem Value} {g g' : D → D → (D → Prop) → Prop} (h : OpD X dc f g) (m : ∀ x y P P', (∀ z, P z → P' z) → g' x y P → g' x y P') (i : ∀ x y Q, g' x y Q → g x y Q) : OpD X dc f g' := by
  obtain ⟨_, r, o, q⟩ := h
  exact ⟨m, r, o, fun F H x y v u Q p rx ry z => q F H x y v u Q p rx ry (i _ _ _ z)⟩
/-- ints under C, a flat value out -/
theorem OpD.ints {f : Value → Value → Sem Value} {C : Int → Int → Prop} {g : Int → Int → V} {gd : Int → Int → D} (h : OpR X f (rI C g)) (hg : ∀ F i j, Rep dc F (gd i j) (g i j)) : OpD X dc f (fun x y Q => asInt x fun i => asInt y fun j => C i j ∧ Q (gd i j)) := by
  refine ⟨fun x y P P' hP z => asInt.mono (fun i z => asInt.mono (fun j z => ⟨z.1, hP _ z.2⟩) z) z, _, h, fun F H x y v u Q p rx ry z => ?_⟩
  obtain ⟨i, rfl, z1⟩ := z.inv
  obtain ⟨j, rfl, c, z2⟩ := z1.inv
  cases rx
  cases ry
  exact ⟨i, j, rfl, rfl, c, z2.now p (hg _ _ _)⟩
theorem OpD.ints0 {f : Value → Value → Sem Value} {g : Int → Int → V} {gd : Int → Int → D} (h : OpR X f (rI0 g)) (hg : ∀ F i j, Rep dc F (gd i j) (g i j)) : OpD X dc f (fun x y Q => asInt x fun i => asInt y fun j => Q (gd i j)) := by
  refine ⟨fun x y P P' hP z => asInt.mono (fun i z => asInt.mono (fun j z => hP _ z) z) z, _, h, fun F H x y v u Q p rx ry z => ?_⟩
  obtain ⟨i, rfl, z1⟩ := z.inv
  obtain ⟨j, rfl, z2⟩ := z1.inv
  cases rx
  cases ry
  exact ⟨i, j, rfl, rfl, z2.now p (hg _ _ _)⟩
def d2 (g : D → D → (D → Prop) → Prop) (da db : DT) : DT := fun ρ Q => da ρ fun x => db ρ fun y => g x y Q
theorem d2_mono {g : D → D → (D → Prop) → Prop} {da db : DT} (mg : ∀ x y P P', (∀ z, P z → P' z) → g x y P → g x y P') (ma : ∀ ρ P P', (∀ x, P x → P' x) → da ρ P → da ρ P') (mb : ∀ ρ P P', (∀ x, P x → P' x) → db ρ P → db ρ P') :
    ∀ ρ P P', (∀ x, P x → P' x) → d2 g da db ρ P → d2 g da db ρ P' := fun ρ P P' hP h => ma _ _ _ (fun x h => mb _ _ _ (fun y h => mg _ _ _ _ hP h) h) h
theorem de_op {op : Operator} {g : D → D → (D → Prop) → Prop} {a b : Expr} {da db : DT} {pos : Pos} (ho : OpD X dc (binaryOp op) g) (ha : DE X dc a da) (hb : DE X dc b db) : DE X dc (.BinOp a op b pos) (d2 g da db) := by
  obtain ⟨mg, r, o, q⟩ := ho
  have ma := ha.mono
  have mb := hb.mono
  obtain ⟨ta, pa, ra⟩ := ha.get
  obtain ⟨tb, pb, rb⟩ := hb.get
  refine ⟨d2_mono mg ma mb, _, pe_op o pa pb, fun ρ σ F H Q p s h => ?_⟩
  refine ra p s h fun x v F1 H1 h e1 r1 => rb e1.pre (s.mono e1.fsub) h fun y u F2 H2 h e2 r2 => ?_
  exact q F2 H2 x y v u Q e2.pre (e2.rep r1) r2 (mg _ _ _ _ (fun z hz => hz.on p (e1.trans p e2)) h)
theorem de_cmp {op : CmpOp} {g : D → D → (D → Prop) → Prop} {a b : Expr} {da db : DT} {pos : Pos} (ho : OpD X dc (compareOp op) g) (ha : DE X dc a da) (hb : DE X dc b db) (hm : behindInMarks op b = false) : DE X dc (.Compare a [op] [b] pos) (d2 g da db) := by
  obtain ⟨mg, r, o, q⟩ := ho
  have ma := ha.mono
  have mb := hb.mono
  obtain ⟨ta, pa, ra⟩ := ha.get
  obtain ⟨tb, pb, rb⟩ := hb.get
  refine ⟨d2_mono mg ma mb, _, pe_cmpR o pa pb hm, fun ρ σ F H Q p s h => ?_⟩
  refine ra p s h fun x v F1 H1 h e1 r1 => rb e1.pre (s.mono e1.fsub) h fun y u F2 H2 h e2 r2 => ?_
  exact q F2 H2 x y v u Q e2.pre (e2.rep r1) r2 (mg _ _ _ _ (fun z hz => hz.on p (e1.trans p e2)) h)
/-- a comparison, a value that is True or False, as a test -/
def dB (d : DT) : DTB := fun ρ Q => d ρ fun x => asBl x Q
theorem dB_mono {d : DT} (m : ∀ ρ P P', (∀ x, P x → P' x) → d ρ P → d ρ P') : ∀ ρ P P', (∀ x, P x → P' x) → dB d ρ P → dB d ρ P' := fun ρ P P' hP h => m _ _ _ (fun x h => asBl.mono hP h) h
theorem dc_cmp {op : CmpOp} {g : D → D → (D → Prop) → Prop} {a b : Expr} {da db : DT} {pos : Pos} (ho : OpD X dc (compareOp op) g) (ha : DE X dc a da) (hb : DE X dc b db) (hm : behindInMarks op b = false) : DC X dc (.Compare a [op] [b] pos) (dB (d2 g da db)) := by
  obtain ⟨mg, r, o, q⟩ := ho
  have ma := ha.mono
  have mb := hb.mono
  obtain ⟨ta, pa, ra⟩ := ha.get
  obtain ⟨tb, pb, rb⟩ := hb.get
  refine ⟨dB_mono (d2_mono mg ma mb), _, pt_cmpR o pa pb hm, fun ρ σ F H Q p s h => ?_⟩
  refine ra p s h fun x v F1 H1 h e1 r1 => rb e1.pre (s.mono e1.fsub) h fun y u F2 H2 h e2 r2 => ?_
  refine q F2 H2 x y v u _ e2.pre (e2.rep r1) r2 (mg _ _ _ _ (fun z hz w F3 H3 e3 r3 => ?_) h)
  obtain ⟨b, rfl, hz⟩ := hz.inv
  cases r3
  exact ⟨b, rfl, hz _ _ ((e1.trans p e2).trans p e3)⟩
theorem dc_val {e : Expr} {d : DT} (h : DE X dc e d) (he : ∀ whole, isTrue e X.env whole = (do let v ← whole; standAt e.pos; holding [v] (truthy v)) := by intro _; rfl) : DC X dc e (dB d) := by
  have m := h.mono
  obtain ⟨t, pt, rt⟩ := h.get
  refine ⟨dB_mono m, _, pt_val pt he, fun ρ σ F H Q p s h => ?_⟩
  refine rt p s h fun x v F1 H1 hz e1 r1 => ?_
  obtain ⟨b, rfl, hz⟩ := hz.inv
  cases r1
  exact ⟨b, rfl, hz _ _ e1⟩
/-! and, or, not -/
def dAnd (t u : DTB) : DTB := fun ρ Q => t ρ fun c => if c = true then u ρ Q else Q false
def dOr (t u : DTB) : DTB := fun ρ Q => t ρ fun c => if c = true then Q true else u ρ Q
def dNot (t : DTB) : DTB := fun ρ Q => t ρ fun c => Q (!c)
variable {a b : Expr} {pos : Pos} {rest : List Expr} {ta tb : DTB} {da db : DT}
theorem dw_and1 (ha : DC X dc a ta) : DW X dc (.BoolOp .And [a] pos) ta := ⟨ha.mono, let ⟨t, p, r⟩ := ha.run; ⟨t, pw_and1 p, r⟩⟩
theorem dw_or1 (ha : DC X dc a ta) : DW X dc (.BoolOp .Or [a] pos) ta := ⟨ha.mono, let ⟨t, p, r⟩ := ha.run; ⟨t, pw_or1 p, r⟩⟩
theorem dw_and (ha : DC X dc a ta) (hb : DW X dc (.BoolOp .And (b :: rest) pos) tb) : DW X dc (.BoolOp .And (a :: b :: rest) pos) (dAnd ta tb) := by
  have ma := ha.mono
  have mb := hb.mono
  obtain ⟨t1, p1, r1⟩ := ha.get
  obtain ⟨t2, p2, r2⟩ := hb.get
  refine ⟨fun ρ P P' hP h => ma _ _ _ (fun c h => ?_) h, _, pw_and p1 p2, fun ρ σ F H Q p s h => r1 p s h fun c F1 H1 h e1 => ?_⟩
  · cases c with
    | true => exact iteT (mb _ _ _ hP (by simpa using h))
    | false => exact iteF (hP _ (by simpa using h))
  · cases c with
    | true =>
      have h2 : tb ρ (KB dc F H Q) := by simpa using h
      exact iteT (r2 e1.pre (s.mono e1.fsub) h2 fun c F2 H2 h e2 => h _ _ (e1.trans p e2))
    | false => exact iteF ((show KB dc F H Q false by simpa using h) _ _ e1)
theorem dw_or (ha : DC X dc a ta) (hb : DW X dc (.BoolOp .Or (b :: rest) pos) tb) : DW X dc (.BoolOp .Or (a :: b :: rest) pos) (dOr ta tb) := by
  have ma := ha.mono
  have mb := hb.mono
  obtain ⟨t1, p1, r1⟩ := ha.get
  obtain ⟨t2, p2, r2⟩ := hb.get
  refine ⟨fun ρ P P' hP h => ma _ _ _ (fun c h => ?_) h, _, pw_or p1 p2, fun ρ σ F H Q p s h => r1 p s h fun c F1 H1 h e1 => ?_⟩
  · cases c with
    | true => exact iteT (hP _ (by simpa using h))
    | false => exact iteF (mb _ _ _ hP (by simpa using h))
  · cases c with
    | true => exact iteT ((show KB dc F H Q true by simpa using h) _ _ e1)
    | false =>
      have h2 : tb ρ (KB dc F H Q) := by simpa using h
      exact iteF (r2 e1.pre (s.mono e1.fsub) h2 fun c F2 H2 h e2 => h _ _ (e1.trans p e2))
theorem dc_not (ha : DC X dc a ta) : DC X dc (.UnaryOp .Not a pos) (dNot ta) := by
  have ma := ha.mono
  obtain ⟨t1, p1, r1⟩ := ha.get
  exact ⟨fun ρ P P' hP h => ma _ _ _ (fun c h => hP _ h) h, _, pt_not p1, fun ρ σ F H Q p s h => r1 p s h fun c F1 H1 h e1 => h _ _ e1⟩
def dAndV (ta tb : DT) : DT := fun ρ Q => ta ρ fun x => asBl x fun c => if c = true then tb ρ Q else Q (.bl false)
def dOrV (ta tb : DT) : DT := fun ρ Q => ta ρ fun x => asBl x fun c => if c = true then Q (.bl true) else tb ρ Q
def dNotV (ta : DT) : DT := fun ρ Q => ta ρ fun x => asBl x fun c => Q (.bl (!c))
def dIf (t : DTB) (u w : DT) : DT := fun ρ Q => t ρ fun c => if c = true then u ρ Q else w ρ Q
theorem de_if {c : Expr} {tc : DTB} (hc : DC X dc c tc) (ha : DE X dc a da) (hb : DE X dc b db) : DE X dc (.IfExp c a b pos) (dIf tc da db) := by
  have mc := hc.mono
  have ma := ha.mono
  have mb := hb.mono
  obtain ⟨t0, p0, r0⟩ := hc.get
  obtain ⟨t1, p1, r1⟩ := ha.get
  obtain ⟨t2, p2, r2⟩ := hb.get
  refine ⟨fun ρ P P' hP h => mc _ _ _ (fun c h => ?_) h, _, pe_ifExp p0 p1 p2, fun ρ σ F H Q p s h => r0 p s h fun c F1 H1 h e1 => ?_⟩
  · cases c with
    | true => exact iteT (ma _ _ _ hP (by simpa using h))
    | false => exact iteF (mb _ _ _ hP (by simpa using h))
  · cases c with
    | true =>
      have h2 : da ρ (KV' dc F H Q) := by simpa using h
      exact iteT (r1 e1.pre (s.mono e1.fsub) h2 fun c u F2 H2 h e2 q2 => h _ _ _ (e1.trans p e2) q2)
    | false =>
      have h2 : db ρ (KV' dc F H Q) := by simpa using h
      exact iteF (r2 e1.pre (s.mono e1.fsub) h2 fun c u F2 H2 h e2 q2 => h _ _ _ (e1.trans p e2) q2)
/-! arguments, displays -/
def dNil : DTA := fun _ Q => Q []
def dCons (d : DT) (r : DTA) : DTA := fun ρ Q => d ρ fun x => r ρ fun xs => Q (x :: xs)
theorem da_nil : DA X dc [] dNil := ⟨fun _ _ _ h => h _, _, pa_nil, fun ρ σ F H Q p s h => h _ _ _ (.refl p) .nil⟩
theorem da_cons {e : Expr} {es : List Expr} {d : DT} {r : DTA} (ha : DE X dc e d) (hr : DA X dc es r) (hs : starEach (e :: es) X.env = (false, eval e X.env) :: starEach es X.env := by rfl) : DA X dc (e :: es) (dCons d r) := by
  have ma := ha.mono
  have mb := hr.mono
  obtain ⟨t1, p1, r1⟩ := ha.get
  obtain ⟨t2, p2, r2⟩ := hr.get
  refine ⟨fun ρ P P' hP h => ma _ _ _ (fun x h => mb _ _ _ (fun xs h => hP _ h) h) h, _, pa_cons p1 p2 hs, fun ρ σ F H Q p s h => ?_⟩
  exact r1 p s h fun x v F1 H1 h e1 q1 => r2 e1.pre (s.mono e1.fsub) h fun xs vs F2 H2 h e2 q2 => h _ _ _ (e1.trans p e2) (.cons (e2.rep q1) q2)
def dTup (t : DTA) : DT := fun ρ Q => t ρ fun xs => xs.length ≤ sizeLine ∧ Q (.tup xs)
def dLst (t : DTA) : DT := fun ρ Q => t ρ fun xs => xs.length ≤ sizeLine ∧ Q (.lst xs)
theorem de_tup {es : List Expr} {t : DTA} {x1} (h : DA X dc es t) : DE X dc (.Tuple es x1 pos) (dTup t) := by
  have m := h.mono
  obtain ⟨t1, p1, r1⟩ := h.get
  refine ⟨fun ρ P P' hP h => m _ _ _ (fun x h => ⟨h.1, hP _ h.2⟩) h, _, pe_tup p1, fun ρ σ F H Q p s h => r1 p s h fun xs vs F1 H1 h e1 q1 => ?_⟩
  refine ⟨by rw [← q1.length]; exact h.1, fun a n => ?_⟩
  obtain ⟨e2, q2⟩ := Ext.tup e1.pre n q1
  exact h.2 _ _ _ (e1.trans p e2) q2
theorem de_lst {es : List Expr} {t : DTA} (h : DA X dc es t) : DE X dc (.List es pos) (dLst t) := by
  have m := h.mono
  obtain ⟨t1, p1, r1⟩ := h.get
  refine ⟨fun ρ P P' hP h => m _ _ _ (fun x h => ⟨h.1, hP _ h.2⟩) h, _, pe_lst p1, fun ρ σ F H Q p s h => r1 p s h fun xs vs F1 H1 h e1 q1 => ?_⟩
  refine ⟨by rw [← q1.length]; exact h.1, fun a n => ?_⟩
  obtain ⟨e2, q2⟩ := Ext.lst e1.pre n q1
  exact h.2 _ _ _ (e1.trans p e2) q2
end
/-! ### uniform readings -/
def tD (dc : Option Addr) (d : DT) : TE := fun σ H Q => ∃ ρ F, Pre dc F H ∧ Slots dc F ρ σ ∧ d ρ (KV' dc F H Q)
def tDB (dc : Option Addr) (d : DTB) : TT := fun σ H Q => ∃ ρ F, Pre dc F H ∧ Slots dc F ρ σ ∧ d ρ (KB dc F H Q)
section
variable {X : Cx} {dc : Option Addr}
theorem DE.pe {e : Expr} {d : DT} (h : DE X dc e d) : PE X e (tD dc d) := by
  obtain ⟨_, t, p, r⟩ := h
  exact ⟨fun pins s σ H Q I ⟨ρ, F, hp, hs, hd⟩ => p.run pins s σ H Q I (r ρ σ F H Q hp hs hd)⟩
theorem DC.pt {e : Expr} {d : DTB} (h : DC X dc e d) : PT X e (tDB dc d) := by
  obtain ⟨_, t, p, r⟩ := h
  exact ⟨fun pins s σ H Q I ⟨ρ, F, hp, hs, hd⟩ => p.run pins s σ H Q I (r ρ σ F H Q hp hs hd)⟩
end
/-! ### the slots, many at once -/
def setAll (σ : L2.St) : List Nat → List V → L2.St
  | i :: is, v :: vs => setAll (σ.set i (some v)) is vs
  | _, _ => σ
def setAllD (ρ : DEnv) : List Nat → List D → DEnv
  | i :: is, v :: vs => setAllD (ρ.set i (some v)) is vs
  | _, _ => ρ
def wipeD (ρ : DEnv) : List Nat → DEnv
  | [] => ρ
  | v :: vs => (wipeD ρ vs).set v none
theorem setAll_length : ∀ (is : List Nat) (vs : List V) (σ : L2.St), (setAll σ is vs).length = σ.length
  | [], _, _ => rfl
  | _ :: _, [], _ => rfl
  | i :: is, v :: vs, σ => by unfold setAll; rw [setAll_length, List.length_set]
theorem wipeD_length : ∀ (vs : List Nat) (ρ : DEnv), (wipeD ρ vs).length = ρ.length
  | [], _ => rfl
  | v :: vs, ρ => by unfold wipeD; rw [List.length_set, wipeD_length]
theorem Slots.set1 {dc : Option Addr} {F : Hp} {ρ : DEnv} {σ : L2.St} {x : D} {v : V} {i : Nat} (s : Slots dc F ρ σ) (r : Rep dc F x v) : Slots dc F (ρ.set i (some x)) (σ.set i (some v)) := by
  refine ⟨by rw [List.length_set, List.length_set]; exact s.1, fun j y e => ?_⟩
  by_cases hj : i = j
  · subst hj
    have hl : i < ρ.length := by
      have := (List.getElem?_eq_some_iff.mp e).1
      rwa [List.length_set] at this
    rw [List.getElem?_set_self hl] at e
    cases e
    exact ⟨v, List.getElem?_set_self (by rw [← s.1]; exact hl), r⟩
  · rw [List.getElem?_set_ne hj] at e ⊢
    exact s.2 j y e
theorem Slots.setAll {dc : Option Addr} {F : Hp} : ∀ (is : List Nat) {ρ : DEnv} {σ : L2.St} {xs : List D} {vs : List V}, Slots dc F ρ σ → Reps dc F xs vs → Slots dc F (setAllD ρ is xs) (setAll σ is vs)
  | [], _, _, _, _, s, _ => s
  | _ :: _, _, _, _, _, s, .nil => s
  | i :: is, _, _, _, _, s, .cons r t => by
    unfold setAllD KP.setAll
    exact Slots.setAll is (s.set1 r) t
theorem wipeD_some {ρ : DEnv} {i : Nat} {x : D} : ∀ {vs : List Nat}, (wipeD ρ vs)[i]? = some (some x) → ρ[i]? = some (some x) ∧ i ∉ vs
  | [], h => ⟨h, by simp⟩
  | v :: vs, h => by
    unfold wipeD at h
    by_cases hi : v = i
    · subst hi
      by_cases hv : v < (wipeD ρ vs).length
      · rw [List.getElem?_set_self hv] at h; cases h
      · rw [List.getElem?_eq_none (by simpa using hv)] at h; cases h
    · rw [List.getElem?_set_ne hi] at h
      obtain ⟨h1, h2⟩ := wipeD_some h
      exact ⟨h1, by simp only [List.mem_cons, not_or]; exact ⟨fun e => hi e.symm, h2⟩⟩
theorem Slots.wipe {dc : Option Addr} {F : Hp} {ρ : DEnv} {σ : L2.St} (s : Slots dc F ρ σ) (vs : List Nat) : Slots dc F (wipeD ρ vs) (L2.wipe σ vs) := by
  refine ⟨by rw [wipeD_length, wipe_length]; exact s.1, fun i x e => ?_⟩
  obtain ⟨h1, h2⟩ := wipeD_some e
  obtain ⟨v, h3, r⟩ := s.2 i x h1
  exact ⟨v, by rw [wipe_out h2]; exact h3, r⟩
theorem wipe_in {σ : L2.St} {i : Nat} : ∀ {vs : List Nat}, i ∈ vs → i < σ.length → (L2.wipe σ vs)[i]? = some none
  | [], h, _ => by cases h
  | v :: vs, h, hl => by
    unfold L2.wipe
    by_cases hv : v = i
    · subst hv
      exact List.getElem?_set_self (by rw [wipe_length]; exact hl)
    · rw [List.getElem?_set_ne hv]
      exact wipe_in ((List.mem_cons.mp h).resolve_left fun e => hv e.symm) hl
theorem wipe_ext {σ σ' : L2.St} {vs : List Nat} (hl : σ'.length = σ.length) (h : ∀ j, j ∉ vs → σ'[j]? = σ[j]?) : L2.wipe σ' vs = L2.wipe σ vs := by
  refine List.ext_getElem? fun j => ?_
  by_cases hj : j ∈ vs
  · by_cases hk : j < σ.length
    · rw [wipe_in hj hk, wipe_in hj (by rw [hl]; exact hk)]
    · rw [List.getElem?_eq_none (by rw [wipe_length]; omega), List.getElem?_eq_none (by rw [wipe_length]; omega)]
  · rw [wipe_out hj, wipe_out hj]
    exact h j hj
theorem setAll_out {j : Nat} : ∀ (is : List Nat) (vs : List V) (σ : L2.St), j ∉ is → (setAll σ is vs)[j]? = σ[j]?
  | [], _, _, _ => rfl
  | _ :: _, [], _, _ => rfl
  | i :: is, v :: vs, σ, h => by
    unfold setAll
    rw [setAll_out is vs _ fun z => h (List.mem_cons_of_mem _ z), List.getElem?_set_ne fun z => h (by rw [z]; exact List.mem_cons_self)]
theorem wipe_setAll {σ : L2.St} {is vs : List Nat} {ws : List V} (h : ∀ i ∈ is, i ∈ vs) : L2.wipe (setAll (L2.wipe σ vs) is ws) vs = L2.wipe σ vs := by
  have e : L2.wipe (L2.wipe σ vs) vs = L2.wipe σ vs := wipe_ext (wipe_length _ _) fun j hj => wipe_out hj
  refine (wipe_ext (σ := L2.wipe σ vs) (by rw [setAll_length]) fun j hj => ?_).trans e
  exact setAll_out _ _ _ fun z => hj (h j z)
/-! ### targets -/
abbrev DTG := D → (List D → Prop) → Prop
def gD (dc : Option Addr) (is : List Nat) (g : DTG) : TG := fun v σ H Q => ∃ F x, Pre dc F H ∧ Rep dc F x v ∧ g x fun xs => ∀ vs, Reps dc F xs vs → Q (setAll σ is vs) H
structure DG (X : Cx) (dc : Option Addr) (tg : Expr) (is : List Nat) (g : DTG) : Prop where
  mono : ∀ x P P', (∀ xs, P xs → P' xs) → g x P → g x P'
  run : PG X tg (gD dc is g)
def gsD (dc : Option Addr) (is : List Nat) (g : List D → (List D → Prop) → Prop) : TGs := fun vs σ H Q => ∃ F xs, Pre dc F H ∧ Reps dc F xs vs ∧ g xs fun ys => ∀ ws, Reps dc F ys ws → Q (setAll σ is ws) H
structure DGs (X : Cx) (dc : Option Addr) (tgs : List Expr) (is : List Nat) (g : List D → (List D → Prop) → Prop) : Prop where
  mono : ∀ x P P', (∀ xs, P xs → P' xs) → g x P → g x P'
  len : ∀ x P, g x P → g x fun ys => P ys ∧ ys.length = is.length
  run : PGs X tgs (gsD dc is g)
section
variable {X : Cx} {dc : Option Addr}
def gN : DTG := fun x Q => Q [x]
theorem dg_name {i : Nat} {x : Str} {pos : Pos} (hN : X.N.Nodup) (hi : X.N[i]? = some x) (hx : Loc X.env.scope x) (hf : X.fn x = true ∨ X.env.scope.names.lookup x = some .local := by first | exact .inl rfl | exact .inr rfl | assumption) : DG X dc (.Name x pos) [i] gN := by
  refine ⟨fun x P P' h p => h _ p, ⟨fun pins s σ H v u Q I r h => ?_⟩⟩
  obtain ⟨F, x, p, rx, h⟩ := h
  exact (pg_name hN hi hx hf).run pins s σ H v u Q I r (h [v] (.cons rx .nil))
def gsN : List D → (List D → Prop) → Prop := fun xs Q => xs = [] ∧ Q []
def gsC (k : Nat) (g : DTG) (h : List D → (List D → Prop) → Prop) : List D → (List D → Prop) → Prop := fun xs Q => match xs with
  | x :: r => g x fun ys => ys.length = k ∧ h r fun zs => Q (ys ++ zs)
  | [] => False
theorem setAll_app : ∀ (is : List Nat) {js : List Nat} {vs ws : List V} {σ : L2.St}, vs.length = is.length → setAll (setAll σ is vs) js ws = setAll σ (is ++ js) (vs ++ ws)
  | [], js, vs, ws, σ, h => by
    cases vs with
    | nil => rfl
    | cons _ _ => simp at h
  | i :: is, js, vs, ws, σ, h => by
    cases vs with
    | nil => simp at h
    | cons v vs =>
      show setAll (setAll (σ.set i (some v)) is vs) js ws = setAll (σ.set i (some v)) (is ++ js) (vs ++ ws)
      exact setAll_app is (by simpa using h)
theorem dgs_nil : DGs X dc [] [] gsN := by
  refine ⟨fun x P P' h p => ⟨p.1, h _ p.2⟩, fun x P h => ⟨h.1, h.2, rfl⟩, ⟨fun pins s σ H vs us Q I r h => ?_⟩⟩
  obtain ⟨F, xs, p, rx, rfl, h⟩ := h
  cases rx
  exact pgs_nil.run pins s σ H [] us Q I r ⟨rfl, h [] .nil⟩
theorem dgs_cons {e : Expr} {es : List Expr} {is js : List Nat} {g : DTG} {h : List D → (List D → Prop) → Prop} (h1 : DG X dc e is g) (h2 : DGs X dc es js h)
    (hs : (assignEach (e :: es) X.env).map (·.2) = assign e X.env :: (assignEach es X.env).map (·.2) := by rfl) : DGs X dc (e :: es) (is ++ js) (gsC is.length g h) := by
  refine ⟨fun x P P' hP p => ?_, fun x P p => ?_, ⟨fun pins s σ H vs us Q I r hq => ?_⟩⟩
  · cases x with
    | nil => exact p
    | cons x r => exact h1.mono _ _ _ (fun ys q => ⟨q.1, h2.mono _ _ _ (fun zs q => hP _ q) q.2⟩) p
  · cases x with
    | nil => exact p
    | cons x r => exact h1.mono _ _ _ (fun ys q => ⟨q.1, h2.mono _ _ _ (fun zs z => ⟨z.1, by rw [List.length_append, List.length_append, q.1, z.2]⟩) (h2.len _ _ q.2)⟩) p
  · obtain ⟨F, xs, p, rx, hq⟩ := hq
    cases rx with
    | nil => exact hq.elim
    | cons r1 r2 =>
      refine (pgs_cons h1.run h2.run hs).run pins s σ H _ us Q I r ⟨_, _, rfl, F, _, p, r1, h1.mono _ _ _ (fun ys q ws rw' => ⟨F, _, p, r2, h2.mono _ _ _ (fun zs q2 vs2 rv2 => ?_) q.2⟩) hq⟩
      rw [setAll_app is (by rw [← rw'.length, q.1])]
      exact q2 _ (rw'.app rv2)
def gTupD (n : Nat) (g : List D → (List D → Prop) → Prop) : DTG := fun x Q => asTup x fun xs => xs.length = n ∧ g xs Q
theorem dg_tup {es : List Expr} {k : Nat} {pos : Pos} {is : List Nat} {g : List D → (List D → Prop) → Prop} {n : Nat} (hc : X.calm = true) (h : DGs X dc es is g) (hn : (assignEach es X.env).length = n := by rfl) (hst : (assignEach es X.env).findIdx? (·.1) = none := by rfl) :
    DG X dc (.Tuple es k pos) is (gTupD n g) := by
  refine ⟨fun x P P' hP p => asTup.mono (fun xs q => ⟨q.1, h.mono _ _ _ hP q.2⟩) p, ⟨fun pins s σ H v u Q I r hq => ?_⟩⟩
  obtain ⟨F, x, p, rx, hq⟩ := hq
  obtain ⟨xs, rfl, hl, hg⟩ := hq.inv
  obtain ⟨a, vs, rfl, ha, rv⟩ := rx.seqT p
  exact (pg_tup hc h.run hn hst).run pins s σ H _ u Q I r ⟨a, vs, rfl, .of ha, by rw [← rv.length]; exact hl, F, xs, p, rv, hg⟩
end
/-! ### what is walked -/
structure IterOf (dc : Option Addr) (F H : Hp) (J : It) (xs : List D) : Prop where
  goes : ∀ i H', i < xs.length → (∀ a o, F a ≠ none → H a = some o → Kp o (H' a)) → J.go i H'
  stops : ∀ H', (∀ a o, F a ≠ none → H a = some o → Kp o (H' a)) → J.stop xs.length H'
  yields : ∀ i F' H' v H'', i < xs.length → Pre dc F' H' → (∀ a o, F a = some o → F' a = some o) → (∀ a o, F a ≠ none → H a = some o → Kp o (H' a)) → J.yld i H' v H'' → ∃ x F'', xs[i]? = some x ∧ Ext dc F' H' F'' H'' ∧ Rep dc F'' x v
abbrev DTI := DEnv → (List D → Prop) → Prop
def KI (dc : Option Addr) (F H : Hp) (R : It → Hp → Prop) : List D → Prop := fun xs => ∀ J F1 H1, Ext dc F H F1 H1 → IterOf dc F1 H1 J xs → R J H1
def iD (dc : Option Addr) (w : DTI) : TI := fun σ H R => ∃ ρ F, Pre dc F H ∧ Slots dc F ρ σ ∧ w ρ (KI dc F H R)
structure DI (X : Cx) (dc : Option Addr) (tg iter : Expr) (w : DTI) : Prop where
  mono : ∀ ρ P P', (∀ x, P x → P' x) → w ρ P → w ρ P'
  run : PI X tg iter (iD dc w)
theorem Ext.of {dc : Option Addr} {F H F' H' : Hp} (e : Ext dc F H F' H') (p : Pre dc F H) : ∀ a o, F a ≠ none → H a = some o → Kp o (H' a) := fun a o hF h => e.keep a o (fun z => hF (p.dice a z).2) h
section
variable {X : Cx} {dc : Option Addr} {tg : Expr}
/-- what is walked, told first by some reading -/
theorem DI.mk' {e : Expr} {w : DTI} {t : TI} (m : ∀ ρ P P', (∀ x, P x → P' x) → w ρ P → w ρ P') (h : PI X tg e t) (r : ∀ ρ σ F H R, Pre dc F H → Slots dc F ρ σ → w ρ (KI dc F H R) → t σ H R) : DI X dc tg e w :=
  ⟨m, ⟨fun pins s σ H R I ⟨ρ, F, p, hs, q⟩ => h.run pins s σ H R I (r ρ σ F H R p hs q)⟩⟩
def iSeq (d : DT) : DTI := fun ρ Q => d ρ fun x => asSeq x Q
theorem iter_seq {pins : List (Addr × Obj)} {s : Shared} {σ : L2.St} {F H : Hp} {R : It → Hp → Prop} {x : D} {xs : List D} {v : V} {u : Value} (I : Inv X pins σ H s) (p : Pre dc F H) (r : RelV v u) (rx : Rep dc F x v) (hx : x = .lst xs ∨ x = .tup xs)
    (q : ∀ J, IterOf dc F H J xs → R J H) : wpAny (model X.prog X.w) X.A (pyIter u) (PIE X pins σ tg R) X.xe s := by
  rcases hx with rfl | rfl
  · cases rx with
    | lst ef rr =>
      cases r
      have hh := p.sub _ _ ef
      obtain ⟨its, rv, pl, hz⟩ := I.list (.of hh)
      refine wpAny_pyIter_list pl.isList ?_
      refine ⟨s.heap.objs.size, [s.heap.objs.size], _, _, H, rfl, I.kept (t' := s.toks) fun b o e => Heap.get?_push_of_some _ e, turn_list _ _, ⟨_, Heap.get?_push_size _ rfl, rfl, rfl⟩, fun b hb => ?_, q _ ⟨fun i H' hi k => ?_, fun H' k => ?_, fun i F' H' v H'' hi pr fs k y => ?_⟩⟩
      · have e : b = s.heap.objs.size := by simpa using hb
        subst e
        exact I.fpOk (Nat.le_refl _) (I.hok.fresh (Nat.le_refl _))
      · obtain ⟨v, hv, _⟩ := rr.get (List.getElem?_eq_getElem hi)
        exact ⟨_, v, .of (k _ _ (by rw [ef]; exact fun z => nomatch z) hh), hv⟩
      · exact ⟨_, .of (k _ _ (by rw [ef]; exact fun z => nomatch z) hh), by rw [rr.length]; exact Nat.le_refl _⟩
      · obtain ⟨rfl, y⟩ := y
        have hv := y _ (.of (k _ _ (by rw [ef]; exact fun z => nomatch z) hh))
        obtain ⟨x, hx, rx⟩ := rr.get' hv
        exact ⟨x, F', hx, .refl pr, rx.mono fs⟩
  · cases rx with
    | tup ef rr =>
      cases r
      have hh := p.sub _ _ ef
      obtain ⟨its, rv, pl, hz⟩ := I.tuple (.of hh)
      refine wpAny_pyIter_tuple (show s.heap.IsTuple _ its.toArray from pl) ?_
      refine ⟨s.heap.objs.size, [s.heap.objs.size], _, _, H, rfl, I.kept (t' := s.toks) fun b o e => Heap.get?_push_of_some _ e, turn_tuple _ _, ⟨_, Heap.get?_push_size _ rfl, rfl, rfl⟩, fun b hb => ?_, q _ ⟨fun i H' hi k => ?_, fun H' k => ?_, fun i F' H' v H'' hi pr fs k y => ?_⟩⟩
      · have e : b = s.heap.objs.size := by simpa using hb
        subst e
        exact I.fpOk (Nat.le_refl _) (I.hok.fresh (Nat.le_refl _))
      · obtain ⟨v, hv, _⟩ := rr.get (List.getElem?_eq_getElem hi)
        exact ⟨_, v, .of (k _ _ (by rw [ef]; exact fun z => nomatch z) hh), hv⟩
      · exact ⟨_, .of (k _ _ (by rw [ef]; exact fun z => nomatch z) hh), by rw [rr.length]; exact Nat.le_refl _⟩
      · obtain ⟨rfl, y⟩ := y
        have hv := y _ (.of (k _ _ (by rw [ef]; exact fun z => nomatch z) hh))
        obtain ⟨x, hx, rx⟩ := rr.get' hv
        exact ⟨x, F', hx, .refl pr, rx.mono fs⟩
theorem di_seq {e : Expr} {d : DT} (h : DE X dc e d) : DI X dc tg e (iSeq d) := by
  have m := h.mono
  obtain ⟨t, pt, rt⟩ := h.get
  refine ⟨fun ρ P P' hP q => m _ _ _ (fun x q => asSeq.mono hP q) q, ⟨fun pins s σ H R I ⟨ρ, F, p, hs, q⟩ => ?_⟩⟩
  refine thn (pt.run pins s σ H (fun v H1 => ∃ x xs F1, (x = .lst xs ∨ x = .tup xs) ∧ Ext dc F H F1 H1 ∧ Rep dc F1 x v ∧ KI dc F H R xs) I (rt p hs q fun x v F1 H1 hx e1 r1 => ?_)) fun u s1 ⟨v, H1, I1, r1, x, xs, F1, hx, e1, rx, k⟩ => ?_
  · obtain ⟨xs, e, hq⟩ := hx.inv
    exact ⟨x, xs, F1, e, e1, r1, hq⟩
  · exact iter_seq I1 e1.pre r1 rx hx fun J hJ => k J F1 H1 e1 hJ
/-- range(n), range(m, n) -/
def iRg1 (d : DTA) : DTI := fun ρ Q => d ρ fun xs => match xs with
  | [.int j] => -(2 ^ 62) ≤ j ∧ j < 2 ^ 62 ∧ Q ((List.range j.toNat).map fun (i : Nat) => D.int i)
  | _ => False
theorem iter_rg {F H : Hp} {lo : Int} {n : Nat} : IterOf dc F H (Itr lo n) ((List.range n).map fun (k : Nat) => D.int (lo + k)) := by
  have hl : ((List.range n).map fun (k : Nat) => D.int (lo + k)).length = n := by rw [List.length_map, List.length_range]
  refine ⟨fun i H' hi _ => by rw [hl] at hi; exact hi, fun H' _ => by rw [hl]; exact Nat.le_refl _, fun i F' H' v H'' hi pr fs k y => ?_⟩
  rw [hl] at hi
  obtain ⟨rfl, rfl⟩ := y
  exact ⟨.int (lo + i), F', by rw [List.getElem?_map, List.getElem?_range hi]; rfl, .refl pr, .int _⟩
theorem di_range1 {a : Expr} {d : DTA} {p pos : Pos} (hg : Gl X "range") (hm : X.mg "range" = none) (ha : DA X dc [a] d) (hs : starEach [a] X.env = [(false, eval a X.env)] := by rfl) : DI X dc tg (.Call (.Name "range" p) [a] [] pos) (iRg1 d) := by
  have m := ha.mono
  obtain ⟨t, pt, rt⟩ := ha.get
  refine DI.mk' (fun ρ P P' hP q => m _ _ _ (fun xs q => ?_) q) (pi_range1 hg hm pt hs) fun ρ σ F H R p s q => rt p s q fun xs vs F1 H1 h e1 r1 => ?_
  · split at q
    · exact ⟨q.1, q.2.1, hP _ q.2.2⟩
    · exact q.elim
  · split at h
    · obtain ⟨h1, h2, h3⟩ := h
      cases r1 with
      | cons a b =>
        cases a
        cases b
        refine ⟨_, rfl, h1, h2, h3 _ _ _ e1 ?_⟩
        have := iter_rg (dc := dc) (F := F1) (H := H1) (lo := 0) (n := (by assumption : Int).toNat)
        simpa only [Int.zero_add] using this
    · exact h.elim
end
/-! ### list comprehensions -/
section
variable {dc : Option Addr} {F H F1 H1 : Hp} {a : Addr} {o : HO}
/-- an object that stands apart is written -/
theorem Ext.put (e : Ext dc F H F1 H1) (n : H a = none) (f : F1 a = none) (hd : dc ≠ some a) : Ext dc F H F1 (upd H1 a o) := by
  refine ⟨⟨fun b u q => ?_, fun d z => ?_, fun q hq => (e.pre.tabs q hq).on (fun _ _ h _ => h) fun ps z h => by rw [upd_ne (fun y => by rw [y, f] at z; cases z)]; exact h⟩, fun b u hb q => ?_, e.fsub, e.fnew⟩
  · have hb : b ≠ a := fun z => by rw [z, f] at q; cases q
    exact (e.pre.sub b u q).keep fun w q => by rw [upd_ne hb]; exact q
  · obtain ⟨⟨x, y, w, h⟩, nf⟩ := e.pre.dice d z
    have hb : d ≠ a := fun q => hd (by rw [z, q])
    exact ⟨⟨x, y, w, by rw [upd_ne hb]; exact h⟩, nf⟩
  · rw [upd_ne (ne_of_none q n)]
    exact e.keep b u hb q
/-- .. and taken in -/
theorem Ext.close (e : Ext dc F H F1 H1) (n : H a = none) (h1 : H1 a = some o) (so : SubO H1 a o) (hd : dc ≠ some a) (f : F1 a = none) : Ext dc F H (upd F1 a o) H1 := by
  refine ⟨⟨fun b u q => ?_, fun d z => ?_, fun q hq => (e.pre.tabs q hq).on (fun b u h _ => by rw [upd_ne (fun z => by rw [z, f] at h; cases h)]; exact h) fun ps z h => h⟩, e.keep, fun b u q => ?_, fun b u q => ?_⟩
  · by_cases hb : b = a
    · subst hb
      rw [upd_same] at q
      cases q
      exact so
    · rw [upd_ne hb] at q
      exact e.pre.sub b u q
  · obtain ⟨h, nf⟩ := e.pre.dice d z
    have hb : d ≠ a := fun q => hd (by rw [z, q])
    exact ⟨h, by rw [upd_ne hb]; exact nf⟩
  · have q1 := e.fsub b u q
    have hb : b ≠ a := fun z => by rw [z, f] at q1; cases q1
    rw [upd_ne hb]
    exact q1
  · by_cases hb : b = a
    · subst hb
      exact .inr (.inl n)
    · rw [upd_ne hb] at q
      exact e.fnew b u q
theorem Pre.nd (p : Pre dc F H) (n : H a = none) : dc ≠ some a := fun z => by
  obtain ⟨⟨x, y, w, h⟩, _⟩ := p.dice a z
  rw [n] at h
  cases h
theorem Pre.nf (p : Pre dc F H) (n : H a = none) : F a = none := by
  cases q : F a with
  | none => rfl
  | some u =>
    obtain ⟨w, h⟩ := (p.sub a u q).ex
    rw [n] at h
    cases h
/-- what is not in F and is tracked, but is no tuple, does not come into F -/
theorem Ext.out (e : Ext dc F H F1 H1) (f : F a = none) (h : H a = some o) (nt : ∀ xs, o ≠ .tup xs) : F1 a = none := by
  cases q : F1 a with
  | none => rfl
  | some u =>
    rcases e.fnew a u q with z | z | ⟨xs, z⟩
    · rw [f] at z; cases z
    · rw [h] at z; cases z
    · rw [h] at z; exact absurd (Option.some.inj z) (nt xs)
end
/-- the items one behind the other; each gives some new ones -/
def lcL (f : D → (List D → Prop) → Prop) : List D → (List D → Prop) → Prop
  | [], Q => Q []
  | x :: xs, Q => f x fun a => lcL f xs fun r => Q (a ++ r)
theorem lcL_mono {f : D → (List D → Prop) → Prop} (m : ∀ x P P', (∀ y, P y → P' y) → f x P → f x P') : ∀ (xs : List D) (P P' : List D → Prop), (∀ y, P y → P' y) → lcL f xs P → lcL f xs P'
  | [], _, _, h, p => h _ p
  | x :: xs, _, _, h, p => m _ _ _ (fun a q => lcL_mono m xs _ _ (fun r q => h _ q) q) p
def dYes : DTB := fun _ Q => Q true
structure DTs (X : Cx) (dc : Option Addr) (ifs : List Expr) (d : DTB) : Prop where
  mono : ∀ ρ P P', (∀ x, P x → P' x) → d ρ P → d ρ P'
  run : PTs X ifs (tDB dc d)
def lcF (is : List Nat) (g : DTG) (dt : DTB) (de : DT) (vs : List Nat) (ρ : DEnv) : D → (List D → Prop) → Prop := fun x K => g x fun ys => dt (setAllD (wipeD ρ vs) is ys) fun b => if b = true then de (setAllD (wipeD ρ vs) is ys) fun y => K [y] else K []
def dLc (w : DTI) (is : List Nat) (g : DTG) (dt : DTB) (de : DT) (vs : List Nat) : DT := fun ρ Q => w ρ fun xs => xs.length ≤ sizeLine ∧ lcL (lcF is g dt de vs ρ) xs fun ys => Q (.lst ys)
section
variable {X : Cx} {dc : Option Addr}
theorem dts_nil : DTs X dc [] dYes := ⟨fun ρ P P' h p => h _ p, ⟨fun pins s σ H Q I ⟨ρ, F, p, hs, q⟩ => pts_nil.run pins s σ H Q I (q _ _ (.refl p))⟩⟩
theorem dts_one {c : Expr} {d : DTB} (h : DC X dc c d) : DTs X dc [c] d := ⟨h.mono, pts_one h.pt⟩
theorem lcF_mono {is : List Nat} {g : DTG} {dt : DTB} {de : DT} {vs : List Nat} {ρ : DEnv} (mg : ∀ x P P', (∀ xs, P xs → P' xs) → g x P → g x P') (mt : ∀ ρ P P', (∀ x, P x → P' x) → dt ρ P → dt ρ P') (me : ∀ ρ P P', (∀ x, P x → P' x) → de ρ P → de ρ P') :
    ∀ x P P', (∀ y, P y → P' y) → lcF is g dt de vs ρ x P → lcF is g dt de vs ρ x P' := fun x P P' h p => mg _ _ _ (fun ys p => mt _ _ _ (fun b p => by
  cases b with
  | true => exact iteT (me _ _ _ (fun y q => h _ q) (by simpa using p))
  | false => exact iteF (h _ (by simpa using p))) p) p
theorem lc_read {J : It} {xs : List D} {ρ : DEnv} {σ : L2.St} {F1 H1 : Hp} {Q : VK} {is vs : List Nat} {g : DTG} {dt : DTB} {de : DT} (mg : ∀ x P P', (∀ xs, P xs → P' xs) → g x P → g x P') (mt : ∀ ρ P P', (∀ x, P x → P' x) → dt ρ P → dt ρ P')
    (me : ∀ ρ P P', (∀ x, P x → P' x) → de ρ P → de ρ P') (his : ∀ i ∈ is, i ∈ vs) (p1 : Pre dc F1 H1) (s : Slots dc F1 ρ σ) (it : IterOf dc F1 H1 J xs) (hz : xs.length ≤ sizeLine) (hl : lcL (lcF is g dt de vs ρ) xs fun ys => KV' dc F1 H1 Q (.lst ys)) :
    ∀ L, H1 L = none → ∃ W : Nat → Nat → Hp → Prop, (∃ m, W 0 m (upd H1 L (.lst []))) ∧ ∀ i m H, W i m H →
      (J.stop i H ∧ Q (.ref L) H) ∨ (J.go i H ∧ ∃ Nx : Hp → Prop, (∀ H', Nx H' → ∃ m', m' < m ∧ W (i + 1) m' H') ∧ ∀ x H', J.yld i H x H' → gD dc is g x (L2.wipe σ vs) H' fun σ2 H2 => L2.wipe σ2 vs = L2.wipe σ vs ∧ tDB dc dt σ2 H2 fun b H3 =>
        if b = true then tD dc de σ2 H3 fun y H4 => ∃ acc, H4 L = some (.lst acc) ∧ acc.length < sizeLine ∧ Nx (upd H4 L (.lst (acc ++ [y]))) else Nx H3) := by
  intro L nD
  have fD1 : F1 L = none := p1.nf nD
  have dD : dc ≠ some L := p1.nd nD
  refine lc_it (n := xs.length) (G := fun H' => ∀ a o, F1 a ≠ none → H1 a = some o → Kp o (H' a)) (Y := fun i H' v H'' => ∀ F', Pre dc F' H' → (∀ a o, F1 a = some o → F' a = some o) → ∃ x F'', xs[i]? = some x ∧ Ext dc F' H' F'' H'' ∧ Rep dc F'' x v)
    ⟨fun i H' hi k => it.goes i H' hi k, fun H' k => it.stops H' k, fun i H' v H'' hi k y F' pr fs => it.yields i F' H' v H'' hi pr fs k y⟩
    (fun i H' => ∃ F' acc accD, Ext dc F1 H1 F' H' ∧ F' L = none ∧ H' L = some (.lst acc) ∧ Reps dc F' accD acc ∧ accD.length ≤ i ∧ lcL (lcF is g dt de vs ρ) (xs.drop i) (fun r => KV' dc F1 H1 Q (.lst (accD ++ r))))
    ⟨F1, [], [], (Ext.refl p1).put nD fD1 dD, fD1, upd_same, .nil, Nat.le_refl _, by rw [List.drop_zero]; exact hl⟩
    (fun i H' _ hP => let ⟨F', _, _, e, _⟩ := hP; e.of p1) (fun i v H' H'' hi hP y => ?_) (fun H' hP => ?_)
  · obtain ⟨F', acc, accD, e, fD, hD, ra, la, hl⟩ := hP
    obtain ⟨x, F2, hx, e2, rx⟩ := y F' e.pre e.fsub
    have hxe : x = xs[i] := by rw [List.getElem?_eq_getElem hi] at hx; exact (Option.some.inj hx).symm
    rw [List.drop_eq_getElem_cons hi, ← hxe] at hl
    have nt : ∀ us, HO.lst acc ≠ .tup us := fun us z => nomatch z
    have hD2 : H'' L = some (.lst acc) := e2.keep _ _ dD hD
    have fD2 : F2 L = none := e2.out fD hD nt
    refine ⟨F2, x, e2.pre, rx, mg _ _ _ (fun ys hy ws rw' => ⟨wipe_setAll his, ?_⟩) hl⟩
    have sl : Slots dc F2 (setAllD (wipeD ρ vs) is ys) (setAll (L2.wipe σ vs) is ws) := ((s.mono fun a o q => e2.fsub _ _ (e.fsub _ _ q)).wipe _).setAll is rw'
    refine ⟨_, F2, e2.pre, sl, mt _ _ _ (fun b hb F3 H3 e3 => ?_) hy⟩
    have hD3 : H3 L = some (.lst acc) := e3.keep _ _ dD hD2
    have fD3 : F3 L = none := e3.out fD2 hD2 nt
    cases b with
    | true =>
      refine iteT ⟨_, F3, e3.pre, sl.mono e3.fsub, me _ _ _ (fun yv hyv v F4 H4 e4 r4 => ?_) (by simpa using hb)⟩
      have hD4 : H4 L = some (.lst acc) := e4.keep _ _ dD hD3
      have fD4 : F4 L = none := e4.out fD3 hD3 nt
      refine ⟨acc, hD4, by rw [← ra.length]; omega, F4, acc ++ [v], accD ++ [yv], (((e.trans p1 e2).trans p1 e3).trans p1 e4).put nD fD4 dD, fD4, upd_same, (e4.reps (e3.reps (e2.reps ra))).app (.cons r4 .nil), by rw [List.length_append]; simp; omega, ?_⟩
      have : (fun r => KV' dc F1 H1 Q (D.lst (accD ++ [yv] ++ r))) = fun r => KV' dc F1 H1 Q (D.lst (accD ++ ([yv] ++ r))) := by
        funext r
        rw [List.append_assoc]
      rw [this]
      exact hyv
    | false =>
      refine iteF ⟨F3, acc, accD, (e.trans p1 e2).trans p1 e3, fD3, hD3, e3.reps (e2.reps ra), by omega, ?_⟩
      simpa using hb
  · obtain ⟨F', acc, accD, e, fD, hD, ra, la, hl⟩ := hP
    rw [List.drop_length] at hl
    have hl : KV' dc F1 H1 Q (.lst (accD ++ [])) := hl
    rw [List.append_nil] at hl
    have ec := e.close nD hD hD dD fD
    exact hl _ _ _ ec (.lst upd_same (ra.mono fun a o q => by rw [upd_ne (fun z => by rw [z, fD] at q; cases q)]; exact q))
theorem de_lc {elt tg iter : Expr} {ifs : List Expr} {scope : Scope} {own : List (Str × Nat)} {is : List Nat} {pos : Pos} {w : DTI} {g : DTG} {dt : DTB} {de : DT} (hc : X.calm = true) (hN : X.N.Nodup) (hi : DI X dc tg iter w) (ok : BlkOk X.N X.env.scope scope own)
    (hg : ∀ (s : Shared) (H : Hp) (C : Addr) (cl : List (Str × Addr)) (fp : List Addr), DG (X.blk s H scope (compEnvC scope cl C X.env) fp) dc tg is g) (ht : ∀ (s : Shared) (H : Hp) (C : Addr) (cl : List (Str × Addr)) (fp : List Addr), DTs (X.blk s H scope (compEnvC scope cl C X.env) fp) dc ifs dt)
    (he : ∀ (s : Shared) (H : Hp) (C : Addr) (cl : List (Str × Addr)) (fp : List Addr), DE (X.blk s H scope (compEnvC scope cl C X.env) fp) dc elt de) (his : ∀ i ∈ is, i ∈ own.map (·.2)) (hs : ∀ x, foldedSetIterable iter X.env x = pure x := by intro _; rfl) :
    DE X dc (.ListComp elt [⟨tg, iter, ifs, 0⟩] scope pos) (dLc w is g dt de (own.map (·.2))) := by
  have mw := hi.mono
  have mg := (hg {} (fun _ => none) 0 [] []).mono
  have mt := (ht {} (fun _ => none) 0 [] []).mono
  have me := (he {} (fun _ => none) 0 [] []).mono
  refine ⟨fun ρ P P' hP h => mw _ _ _ (fun xs h => ⟨h.1, lcL_mono (lcF_mono mg mt me) _ _ _ (fun ys q => hP _ q) h.2⟩) h, _, pe_lc hc hN hi.run ok (fun s H C cl fp => (hg s H C cl fp).run) (fun s H C cl fp => (ht s H C cl fp).run) (fun s H C cl fp => (he s H C cl fp).pe) hs, fun ρ σ F H Q p s h => ?_⟩
  refine ⟨ρ, F, p, s, mw _ _ _ (fun xs hx J F1 H1 e1 it => ?_) h⟩
  exact lc_read mg mt me his e1.pre (s.mono e1.fsub) it hx.1 (lcL_mono (lcF_mono mg mt me) _ _ _ (fun ys q => q.on p e1) hx.2)
end
/-! ### paths: what is read without a change -/
def kD : Key → D
  | .inl i => .int i
  | .inr x => .str x
theorem Rep.key {dc : Option Addr} {F : Hp} (k : Key) : Rep dc F (kD k) (kV k) := by cases k <;> constructor
theorem Reps.keys {dc : Option Addr} {F : Hp} : ∀ (ks : List Key), Reps dc F (ks.map kD) (ks.map kV)
  | [] => .nil
  | k :: r => .cons (.key k) (Reps.keys r)
/-- the value at a key -/
def lookD {κ : Type} [DecidableEq κ] : List κ → List D → κ → Option D
  | k :: ks, v :: vs, j => if k = j then some v else lookD ks vs j
  | _, _, _ => none
theorem lookD_rep {dc : Option Addr} {F : Hp} {κ : Type} [DecidableEq κ] : ∀ {ks : List κ} {xs : List D} {vs : List V} {j : κ} {y : D}, Reps dc F xs vs → lookD ks xs j = some y → ∃ v, valV (ks.zip vs) j = some v ∧ Rep dc F y v
  | k :: ks, _, _, j, y, .cons r t, h => by
    unfold lookD at h
    by_cases e : k = j
    · rw [if_pos e] at h
      cases h
      exact ⟨_, valV_pos e, r⟩
    · rw [if_neg e] at h
      obtain ⟨v, h1, h2⟩ := lookD_rep t h
      exact ⟨v, by rw [List.zip_cons_cons, valV_neg e]; exact h1, h2⟩
  | [], _, _, _, _, .cons _ _, h => by cases h
  | [], _, _, _, _, .nil, h => by cases h
  | _ :: _, _, _, _, _, .nil, h => by cases h
theorem lookD_none {dc : Option Addr} {F : Hp} {κ : Type} [DecidableEq κ] : ∀ {ks : List κ} {xs : List D} {vs : List V} {j : κ}, Reps dc F xs vs → lookD ks xs j = none → valV (ks.zip vs) j = none
  | k :: ks, _, _, j, .cons r t, h => by
    unfold lookD at h
    by_cases e : k = j
    · rw [if_pos e] at h
      cases h
    · rw [if_neg e] at h
      rw [List.zip_cons_cons, valV_neg e]
      exact lookD_none t h
  | [], _, _, _, .cons _ _, h => rfl
  | [], _, _, _, .nil, h => rfl
  | _ :: _, _, _, _, .nil, h => rfl
/-- the attribute of an object -/
def fldD : List Str → List D → Str → Option D
  | k :: ks, v :: vs, j => if j == k then some v else fldD ks vs j
  | _, _, _ => none
theorem fldD_rep {dc : Option Addr} {F : Hp} : ∀ {ks : List Str} {xs : List D} {vs : List V} {j : Str} {y : D}, Reps dc F xs vs → fldD ks xs j = some y → ∃ v, (ks.zip vs).lookup j = some v ∧ Rep dc F y v
  | k :: ks, _, _, j, y, .cons r t, h => by
    unfold fldD at h
    by_cases e : (j == k) = true
    · rw [if_pos e] at h
      cases h
      exact ⟨_, by rw [List.zip_cons_cons, List.lookup_cons, e], r⟩
    · rw [if_neg e] at h
      obtain ⟨v, h1, h2⟩ := fldD_rep t h
      exact ⟨v, by rw [List.zip_cons_cons, List.lookup_cons, Bool.eq_false_iff.mpr e]; exact h1, h2⟩
  | [], _, _, _, _, .cons _ _, h => by cases h
  | [], _, _, _, _, .nil, h => by cases h
  | _ :: _, _, _, _, _, .nil, h => by cases h
def onSome (o : Option D) (Q : D → Prop) : Prop := match o with | some y => Q y | none => False
theorem onSome.inv {o : Option D} {Q : D → Prop} (h : onSome o Q) : ∃ y, o = some y ∧ Q y := by cases o <;> first | exact ⟨_, rfl, h⟩ | exact h.elim
theorem onSome.mono {o : Option D} {P Q : D → Prop} (h : ∀ i, P i → Q i) (p : onSome o P) : onSome o Q := by cases o <;> first | exact h _ p | exact p
structure DP (X : Cx) (dc : Option Addr) (e : Expr) (d : DT) : Prop where
  mono : ∀ ρ P P', (∀ x, P x → P' x) → d ρ P → d ρ P'
  run : ∃ t, PE X e t ∧ ∀ ρ σ F K, Slots dc F ρ σ → d ρ K → ∃ x v, K x ∧ Rep dc F x v ∧ ∀ H Q, Pre dc F H → Q v H → t σ H Q
section
variable {X : Cx} {dc : Option Addr} {e : Expr} {d : DT} {pos : Pos}
theorem DP.de (h : DP X dc e d) : DE X dc e d := by
  obtain ⟨m, t, p, r⟩ := h
  refine ⟨m, t, p, fun ρ σ F H Q hp hs hd => ?_⟩
  obtain ⟨x, v, k, rx, g⟩ := r ρ σ F _ hs hd
  exact g H Q hp (k.now hp rx)
theorem dp_var (i : Nat) {x : Str} (hN : X.N[i]? = some x := by rfl) (hv : Vis X.env.scope x := by first | exact Or.inl rfl | exact Or.inr (Or.inl rfl) | exact Or.inr (Or.inr rfl)) (hd : (x == ("__debug__" : Str)) = false := by decide)
    (hcd : (x == ("__classdict__" : Str)) = false := by decide) : DP X dc (.Name x pos) (dVar i) := by
  refine ⟨(de_var (dc := dc) (pos := pos) i hN hv hd hcd).mono, _, pe_var hN hv hd hcd, fun ρ σ F K s h => ?_⟩
  obtain ⟨x, e, h⟩ := dVar_inv h
  obtain ⟨v, e2, r⟩ := s.2 i x e
  exact ⟨x, v, h, r, fun H Q p q => ⟨v, e2, q⟩⟩
/-- o["name"] of a dict with such keys -/
def dKey (k : Str) (d : DT) : DT := fun ρ Q => d ρ fun x => match x with | .dK ks vs => onSome (lookD ks vs (.inr k)) Q | _ => False
theorem dKey_mono {k : Str} (m : ∀ ρ P P', (∀ x, P x → P' x) → d ρ P → d ρ P') : ∀ ρ P P', (∀ x, P x → P' x) → dKey k d ρ P → dKey k d ρ P' := fun ρ P P' hP h => m _ _ _ (fun x q => by
  cases x <;> first | exact onSome.mono hP q | exact q) h
theorem dp_key {k : Str} {j pos2} (hu : X.A.units + 1 < cLine) (h : DP X dc e d) (hs : NoSl (.Constant (.str k) j pos2) := by exact fun _ _ => rfl) : DP X dc (.Subscript e (.Constant (.str k) j pos2) pos) (dKey k d) := by
  obtain ⟨m, t, p, r⟩ := h
  refine ⟨dKey_mono m, _, pe_dget hu p pe_str hs, fun ρ σ F K s h => ?_⟩
  obtain ⟨x, v, hx, rx, g⟩ := r ρ σ F _ s h
  cases x with
  | dK ks vs =>
    obtain ⟨y, hy, q⟩ := onSome.inv hx
    cases rx with
    | dK ef l rr =>
      obtain ⟨w, hw, rw'⟩ := lookD_rep rr hy
      refine ⟨y, w, q, rw', fun H Q p q => g H _ p ⟨_, w, rfl, .inl ⟨_, .inr k, p.sub _ _ ef, rfl, hw.symm⟩, q⟩⟩
  | _ => exact hx.elim
/-- o.f of an instance of the class at C -/
def dFld (C : Addr) (f : Str) (d : DT) : DT := fun ρ Q => d ρ fun x => asIns x fun C' ns vs => C' = C ∧ onSome (fldD ns vs f) Q
theorem dp_fld {C : Addr} {f : Str} (c : Cls X.K C) (n : NoAttr X.K C f) (h : DP X dc e d) (hb : attributeBase e f X.env (eval e X.env) = eval e X.env := by rfl) : DP X dc (.Attribute e f pos) (dFld C f d) := by
  obtain ⟨m, t, p, r⟩ := h
  refine ⟨fun ρ P P' hP h => m _ _ _ (fun x q => asIns.mono (fun C ns vs q => ⟨q.1, onSome.mono hP q.2⟩) q) h, _, pe_fld p hb, fun ρ σ F K s h => ?_⟩
  obtain ⟨x, v, hx, rx, g⟩ := r ρ σ F _ s h
  obtain ⟨C', ns, vs, rfl, rfl, hx2⟩ := hx.inv
  obtain ⟨y, hy, q⟩ := onSome.inv hx2
  cases rx with
  | ins ef l rr =>
    obtain ⟨w, hw, rw'⟩ := fldD_rep rr hy
    exact ⟨y, w, q, rw', fun H Q p q => g H _ p ⟨_, _, _, _, w, rfl, p.sub _ _ ef, c, n, hw, q⟩⟩
end
/-! ### a dict that is walked is locked meanwhile -/
section
variable {dc : Option Addr} {F H F1 H1 : Hp} {d : Addr} {o : Obj} {u : HO}
theorem Pre.lock (p : Pre dc F H) {kvs : List (List Key × V)} (ef : F d = some (.dT kvs)) (hd : H d = some (.dT kvs)) : Pre dc F (upd H d (.frz o (.dT kvs))) := by
  refine ⟨fun b u q => ?_, fun a z => ?_, fun q hq => (p.tabs q hq).on (fun _ _ h _ => h) fun ps z h => by rw [upd_ne (ne_of h hd fun z => nomatch z)]; exact h⟩
  · by_cases hb : b = d
    · subst hb
      rw [ef] at q
      cases q
      exact .inr ⟨o, upd_same⟩
    · exact (p.sub b u q).keep fun w h => by rw [upd_ne hb]; exact h
  · obtain ⟨⟨x, y, w, h⟩, n⟩ := p.dice a z
    exact ⟨⟨x, y, w, by rw [upd_ne (ne_of h hd fun z => nomatch z)]; exact h⟩, n⟩
theorem Ext.unlock {kvs : List (List Key × V)} (p : Pre dc F H) (ef : F d = some (.dT kvs)) (hd : H d = some (.dT kvs)) (e : Ext dc F (upd H d (.frz o (.dT kvs))) F1 H1) : Ext dc F H F1 (upd H1 d (.dT kvs)) := by
  have ndd : dc ≠ some d := fun z => by rw [(p.dice d z).2] at ef; cases ef
  refine ⟨⟨fun b u q => ?_, fun a z => ?_, fun q hq => (e.pre.tabs q hq).on (fun _ _ h _ => h) fun ps z h => by rw [upd_ne (fun y => by rw [y, e.fsub _ _ ef] at z; cases z)]; exact h⟩, fun b u hb q => ?_, e.fsub, fun b u q => ?_⟩
  · by_cases hb : b = d
    · subst hb
      rw [e.fsub _ _ ef] at q
      cases q
      exact .inl upd_same
    · exact (e.pre.sub b u q).keep fun w h => by rw [upd_ne hb]; exact h
  · obtain ⟨⟨x, y, w, h⟩, n⟩ := e.pre.dice a z
    exact ⟨⟨x, y, w, by rw [upd_ne (fun q => ndd (by rw [← q, z]))]; exact h⟩, n⟩
  · by_cases hbd : b = d
    · subst hbd
      rw [hd] at q
      cases q
      exact upd_same
    · rw [upd_ne hbd]
      exact e.keep b u hb (by rw [upd_ne hbd]; exact q)
  · rcases e.fnew b u q with z | z | ⟨xs, z⟩
    · exact .inl z
    · by_cases hbd : b = d
      · subst hbd
        rw [upd_same] at z
        cases z
      · rw [upd_ne hbd] at z
        exact .inr (.inl z)
    · by_cases hbd : b = d
      · subst hbd
        rw [upd_same] at z
        cases z
      · rw [upd_ne hbd] at z
        exact .inr (.inr ⟨xs, z⟩)
/-- the key tuples -/
def keysD (ks : List (List Key)) : List D := ks.map fun k => .tup (k.map kD)
theorem iter_keysT {ks : List (List Key)} {vs : List V} (ef : F d = some (.dT (ks.zip vs))) (hd : H d = some (.frz o (.dT (ks.zip vs)))) (l : ks.length = vs.length) : IterOf dc F H (Itkt d o (ks.zip vs)) (keysD ks) := by
  have hl : (keysD ks).length = ks.length := List.length_map ..
  have hz : (ks.zip vs).length = ks.length := by rw [List.length_zip]; omega
  have nn : F d ≠ none := by rw [ef]; exact fun z => nomatch z
  refine ⟨fun i H' hi k => ⟨k _ _ nn hd, by omega⟩, fun H' k => ⟨k _ _ nn hd, by omega⟩, fun i F' H' v H'' hi pr fs k y => ?_⟩
  obtain ⟨rfl, kk, w, q, hk, rfl, hq⟩ := y
  have hki : ks[i]? = some kk := by
    have := congrArg (Option.map Prod.fst) hk
    rw [← List.getElem?_map, List.map_fst_zip (by omega)] at this
    exact this
  exact ⟨.tup (kk.map kD), _, by unfold keysD; rw [List.getElem?_map, hki]; rfl, Ext.seen pr hq, .tup upd_same (Reps.keys _)⟩
end
def dLcK (w : DT) (is : List Nat) (g : DTG) (dt : DTB) (de : DT) (vs : List Nat) : DT := fun ρ Q => w ρ fun x => asDT x fun ks _ => ks.length ≤ sizeLine ∧ lcL (lcF is g dt de vs ρ) (keysD ks) fun ys => Q (.lst ys)
section
variable {X : Cx} {dc : Option Addr}
/-- [.. for k in d if ..], d a dict with keys that are tuples -/
theorem de_lcK {elt tg iter : Expr} {ifs : List Expr} {scope : Scope} {own : List (Str × Nat)} {is : List Nat} {pos : Pos} {w : DT} {g : DTG} {dt : DTB} {de : DT} (hc : X.calm = true) (hN : X.N.Nodup) (hi : DP X dc iter w) (ok : BlkOk X.N X.env.scope scope own)
    (hg : ∀ (s : Shared) (H : Hp) (C : Addr) (cl : List (Str × Addr)) (fp : List Addr), DG (X.blk s H scope (compEnvC scope cl C X.env) fp) dc tg is g) (ht : ∀ (s : Shared) (H : Hp) (C : Addr) (cl : List (Str × Addr)) (fp : List Addr), DTs (X.blk s H scope (compEnvC scope cl C X.env) fp) dc ifs dt)
    (he : ∀ (s : Shared) (H : Hp) (C : Addr) (cl : List (Str × Addr)) (fp : List Addr), DE (X.blk s H scope (compEnvC scope cl C X.env) fp) dc elt de) (his : ∀ i ∈ is, i ∈ own.map (·.2)) (hs : ∀ x, foldedSetIterable iter X.env x = pure x := by intro _; rfl) :
    DE X dc (.ListComp elt [⟨tg, iter, ifs, 0⟩] scope pos) (dLcK w is g dt de (own.map (·.2))) := by
  obtain ⟨mw, tw, pw, rw'⟩ := hi
  have mg := (hg {} (fun _ => none) 0 [] []).mono
  have mt := (ht {} (fun _ => none) 0 [] []).mono
  have me := (he {} (fun _ => none) 0 [] []).mono
  have pl := pe_lc hc hN (pi_keys (tg := tg) pw) ok (fun s H C cl fp => (hg s H C cl fp).run) (fun s H C cl fp => (ht s H C cl fp).run) (fun s H C cl fp => (he s H C cl fp).pe) hs (pos := pos)
  refine ⟨fun ρ P P' hP h => mw _ _ _ (fun x h => asDT.mono (fun ks vs h => ⟨h.1, lcL_mono (lcF_mono mg mt me) _ _ _ (fun ys q => hP _ q) h.2⟩) h) h, _, pe_or2 (pe_lock pl) pl, fun ρ σ F H Q p s h => ?_⟩
  obtain ⟨x, v, hx, rx, gt⟩ := rw' ρ σ F _ s h
  obtain ⟨ks, vs, rfl, hz, hl⟩ := hx.inv
  have hl1 : (keysD ks).length ≤ sizeLine := by unfold keysD; rw [List.length_map]; exact hz
  cases rx with
  | @dT a _ _ ws ef l rr =>
    rcases p.sub _ _ ef with hd | ⟨o, hd⟩
    · refine .inl ⟨_, _, hd, trivial, fun od => gt _ _ (p.lock ef hd) ⟨_, od, rfl, .inr ⟨_, upd_same, ?_⟩⟩⟩
      refine lc_read (Q := fun v H' => H' a = some (.frz od (.dT (ks.zip ws))) ∧ Q v (upd H' a (.dT (ks.zip ws)))) mg mt me his (p.lock ef hd) s (iter_keysT ef upd_same l) hl1 (lcL_mono (lcF_mono mg mt me) _ _ _ (fun ys q v F1 H1 e1 r1 => ⟨?_, ?_⟩) hl)
      · exact e1.of (p.lock ef hd) _ _ (by rw [ef]; exact fun z => nomatch z) upd_same
      · exact q _ _ _ (Ext.unlock p ef hd e1) r1
    · refine .inr (gt _ _ p ⟨_, o, rfl, .inr ⟨_, hd, ?_⟩⟩)
      exact lc_read mg mt me his p s (iter_keysT ef hd l) hl1 hl
end
/-! ### operations -/
mutual
def pyD : D → Option PyData
  | .non => some .none
  | .bl b => some (.bool b)
  | .int i => some (.int i)
  | .str x => some (.str x)
  | .lst xs => (pyDs xs).map .list
  | .tup xs => (pyDs xs).map .tuple
  | _ => none
def pyDs : List D → Option (List PyData)
  | [] => some []
  | x :: xs => match pyD x, pyDs xs with
    | some d, some ds => some (d :: ds)
    | _, _ => none
end
mutual
theorem Rep.py {K : PySem.W.Frag} {dc : Option Addr} {F H : Hp} (p : Pre dc F H) : ∀ {x : D} {v : V} {d : PyData}, Rep dc F x v → pyD x = some d → Dp K H v d
  | _, _, _, .non, h => by cases h; exact .non
  | _, _, _, .bl _, h => by cases h; exact .bl _
  | _, _, _, .int _, h => by cases h; exact .int _
  | _, _, _, .str _, h => by cases h; exact .str _
  | _, _, _, .lst e r, h => by
    unfold pyD at h
    obtain ⟨ds, hd, e2⟩ := Option.map_eq_some_iff.mp h
    cases e2
    exact .lst (.of (p.sub _ _ e)) (Reps.py p r hd)
  | _, _, _, .tup e r, h => by
    unfold pyD at h
    obtain ⟨ds, hd, e2⟩ := Option.map_eq_some_iff.mp h
    cases e2
    exact .tup (.of (p.sub _ _ e)) (Reps.py p r hd)
  | _, _, _, .ty _, h => by cases h
  | _, _, _, .raw _, h => by cases h
  | _, _, _, .cell _, h => by cases h
  | _, _, _, .dK _ _ _, h => by cases h
  | _, _, _, .dT _ _ _, h => by cases h
  | _, _, _, .ins _ _ _, h => by cases h
theorem Reps.py {K : PySem.W.Frag} {dc : Option Addr} {F H : Hp} (p : Pre dc F H) : ∀ {x : List D} {v : List V} {d : List PyData}, Reps dc F x v → pyDs x = some d → DpAll K H v d
  | _, _, _, .nil, h => by cases h; exact .nil
  | _, _, _, .cons r t, h => by
    unfold pyDs at h
    split at h
    · cases h
      exact .cons (Rep.py p r (by assumption)) (Reps.py p t (by assumption))
    · cases h
end
def dPy (neg : Bool) (x y : D) (Q : D → Prop) : Prop := match pyD x, pyD y with
  | some d, some e => SeqAt.shaped d = true ∧ SeqAt.shaped e = true ∧ Q (.bl (neg ^^ PyData.eqv d e))
  | _, _ => False
theorem dPy_inv {neg : Bool} {x y : D} {Q : D → Prop} (h : dPy neg x y Q) : ∃ d e, pyD x = some d ∧ pyD y = some e ∧ SeqAt.shaped d = true ∧ SeqAt.shaped e = true ∧ Q (.bl (neg ^^ PyData.eqv d e)) := by
  unfold dPy at h
  split at h
  · exact ⟨_, _, by assumption, by assumption, h⟩
  · exact h.elim
theorem dPy_mono {neg : Bool} {x y : D} {P Q : D → Prop} (hP : ∀ z, P z → Q z) (h : dPy neg x y P) : dPy neg x y Q := by
  obtain ⟨d, e, h1, h2, h3, h4, h5⟩ := dPy_inv h
  unfold dPy
  rw [h1, h2]
  exact ⟨h3, h4, hP _ h5⟩
def dEq (x y : D) (Q : D → Prop) : Prop := match x, y with
  | .int i, .int j => Q (.bl (decide (i = j)))
  | .str i, .str j => Q (.bl (decide (i = j)))
  | .bl i, .bl j => Q (.bl (decide (i = j)))
  | x, y => dPy false x y Q
def dNe (x y : D) (Q : D → Prop) : Prop := match x, y with
  | .int i, .int j => Q (.bl (!decide (i = j)))
  | .str i, .str j => Q (.bl (!decide (i = j)))
  | .bl i, .bl j => Q (.bl (!decide (i = j)))
  | x, y => dPy true x y Q
/-- flat data, and their == -/
def flatD : D → Bool
  | .non => true | .bl _ => true | .int _ => true | .str _ => true | _ => false
def vOf : D → V
  | .non => .non | .bl b => .bl b | .int i => .int i | .str x => .str x | _ => .non
theorem Rep.flat {dc : Option Addr} {F : Hp} {x : D} {v : V} (r : Rep dc F x v) (h : flatD x = true) : v = vOf x ∧ flatV v = true := by
  cases r <;> first | exact ⟨rfl, rfl⟩ | cases h
theorem Reps.flat {dc : Option Addr} {F : Hp} : ∀ {xs : List D} {vs : List V}, Reps dc F xs vs → xs.all flatD = true → vs = xs.map vOf ∧ vs.all flatV = true
  | _, _, .nil, _ => ⟨rfl, rfl⟩
  | _, _, .cons r t, h => by
    rw [List.all_cons, Bool.and_eq_true] at h
    obtain ⟨e1, e2⟩ := r.flat h.1
    obtain ⟨e3, e4⟩ := Reps.flat t h.2
    exact ⟨by rw [List.map_cons, ← e1, ← e3], by rw [List.all_cons, e2, e4]; rfl⟩
def inD (x : D) (ys : List D) : Bool := inV (vOf x) (ys.map vOf)
def dIn (neg : Bool) (x y : D) (Q : D → Prop) : Prop := asSeq y fun ys => flatD x = true ∧ ys.all flatD = true ∧ Q (.bl (neg ^^ inD x ys))
section
variable {X : Cx} {dc : Option Addr}
theorem opd_eq (hu : X.A.units + 64 < cLine) : OpD X dc (compareOp .Eq) dEq := by
  have h1 : OpD X dc (compareOp .Eq) (fun x y Q => dPy false x y Q) := by
    refine ⟨fun x y P P' hP h => dPy_mono hP h, _, op_eqD hu, fun F H x y v u Q p rx ry h => ?_⟩
    obtain ⟨d, e, h1, h2, h3, h4, h5⟩ := dPy_inv h
    exact ⟨d, e, rx.py p h1, ry.py p h2, h3, h4, by simpa using h5.now p (.bl _)⟩
  have h2 : OpD X dc (compareOp .Eq) (fun x y Q => scal (vOf x) (vOf y) = true ∧ flatD x = true ∧ flatD y = true ∧ Q (.bl (decide (vOf x = vOf y)))) := by
    refine ⟨fun x y P P' hP h => ⟨h.1, h.2.1, h.2.2.1, hP _ h.2.2.2⟩, _, op_eq, fun F H x y v u Q p rx ry h => ?_⟩
    obtain ⟨h1, h2, h3, h4⟩ := h
    obtain ⟨rfl, _⟩ := rx.flat h2
    obtain ⟨rfl, _⟩ := ry.flat h3
    exact ⟨h1, h4.now p (.bl _)⟩
  refine (h1.or h2).imp (fun x y P P' hP h => ?_) fun x y Q h => ?_
  · unfold dEq at h ⊢
    split <;> first | exact hP _ h | exact dPy_mono hP (by simpa using h)
  · unfold dEq at h
    split at h
    · exact .inr ⟨rfl, rfl, rfl, by simpa [vOf] using h⟩
    · exact .inr ⟨rfl, rfl, rfl, by simpa [vOf] using h⟩
    · exact .inr ⟨rfl, rfl, rfl, by simpa [vOf] using h⟩
    · exact .inl h
theorem opd_ne (hu : X.A.units + 64 < cLine) : OpD X dc (compareOp .NotEq) dNe := by
  have h1 : OpD X dc (compareOp .NotEq) (fun x y Q => dPy true x y Q) := by
    refine ⟨fun x y P P' hP h => dPy_mono hP h, _, op_neD hu, fun F H x y v u Q p rx ry h => ?_⟩
    obtain ⟨d, e, h1, h2, h3, h4, h5⟩ := dPy_inv h
    exact ⟨d, e, rx.py p h1, ry.py p h2, h3, h4, by simpa using h5.now p (.bl _)⟩
  have h2 : OpD X dc (compareOp .NotEq) (fun x y Q => scal (vOf x) (vOf y) = true ∧ flatD x = true ∧ flatD y = true ∧ Q (.bl (!decide (vOf x = vOf y)))) := by
    refine ⟨fun x y P P' hP h => ⟨h.1, h.2.1, h.2.2.1, hP _ h.2.2.2⟩, _, op_ne, fun F H x y v u Q p rx ry h => ?_⟩
    obtain ⟨h1, h2, h3, h4⟩ := h
    obtain ⟨rfl, _⟩ := rx.flat h2
    obtain ⟨rfl, _⟩ := ry.flat h3
    exact ⟨h1, h4.now p (.bl _)⟩
  refine (h1.or h2).imp (fun x y P P' hP h => ?_) fun x y Q h => ?_
  · unfold dNe at h ⊢
    split <;> first | exact hP _ h | exact dPy_mono hP (by simpa using h)
  · unfold dNe at h
    split at h
    · exact .inr ⟨rfl, rfl, rfl, by simpa [vOf] using h⟩
    · exact .inr ⟨rfl, rfl, rfl, by simpa [vOf] using h⟩
    · exact .inr ⟨rfl, rfl, rfl, by simpa [vOf] using h⟩
    · exact .inl h
theorem opd_in : OpD X dc (compareOp .In) (dIn false) := by
  refine ⟨fun x y P P' hP h => asSeq.mono (fun ys h => ⟨h.1, h.2.1, hP _ h.2.2⟩) h, _, op_in_seq, fun F H x y v u Q p rx ry h => ?_⟩
  obtain ⟨ys, hy, h1, h2, h3⟩ := h.inv
  obtain ⟨a, vs, rfl, hs, rv⟩ := ry.seq p hy (K := X.K)
  obtain ⟨rfl, f1⟩ := rx.flat h1
  obtain ⟨rfl, f2⟩ := rv.flat h2
  exact ⟨a, _, rfl, hs, f1, f2, by simpa [inD] using h3.now p (.bl _)⟩
theorem opd_notin : OpD X dc (compareOp .NotIn) (dIn true) := by
  refine ⟨fun x y P P' hP h => asSeq.mono (fun ys h => ⟨h.1, h.2.1, hP _ h.2.2⟩) h, _, op_notIn_seq, fun F H x y v u Q p rx ry h => ?_⟩
  obtain ⟨ys, hy, h1, h2, h3⟩ := h.inv
  obtain ⟨a, vs, rfl, hs, rv⟩ := ry.seq p hy (K := X.K)
  obtain ⟨rfl, f1⟩ := rx.flat h1
  obtain ⟨rfl, f2⟩ := rv.flat h2
  exact ⟨a, _, rfl, hs, f1, f2, by simpa [inD] using h3.now p (.bl _)⟩
/-! numbers -/
theorem opd_sub : OpD X dc (binaryOp .Sub) (fun x y Q => asInt x fun i => asInt y fun j => Q (.int (i - j))) := .ints0 op_sub fun _ _ _ => .int _
theorem opd_mul : OpD X dc (binaryOp .Mult) (fun x y Q => asInt x fun i => asInt y fun j => CMul i j ∧ Q (.int (i * j))) := .ints op_mul fun _ _ _ => .int _
theorem opd_gt : OpD X dc (compareOp .Gt) (fun x y Q => asInt x fun i => asInt y fun j => Q (.bl (decide (j < i)))) := .ints0 op_gt fun _ _ _ => .bl _
theorem opd_le : OpD X dc (compareOp .LtE) (fun x y Q => asInt x fun i => asInt y fun j => Q (.bl (decide (i ≤ j)))) := .ints0 op_le fun _ _ _ => .bl _
def dLt (x y : D) (Q : D → Prop) : Prop := match x, y with
  | .int i, .int j => Q (.bl (decide (i < j)))
  | .str i, .str j => Q (.bl (decide (i.cps.toList < j.cps.toList)))
  | _, _ => False
theorem opd_lt : OpD X dc (compareOp .Lt) dLt := by
  have h1 : OpD X dc (compareOp .Lt) (fun x y Q => asInt x fun i => asInt y fun j => Q (.bl (decide (i < j)))) := .ints0 op_lt fun _ _ _ => .bl _
  have h2 : OpD X dc (compareOp .Lt) (fun x y Q => asStr x fun i => asStr y fun j => Q (.bl (decide (i.cps.toList < j.cps.toList)))) := by
    refine ⟨fun x y P P' hP h => asStr.mono (fun i h => asStr.mono (fun j h => hP _ h) h) h, _, op_lt_str, fun F H x y v u Q p rx ry h => ?_⟩
    obtain ⟨i, rfl, h1⟩ := h.inv
    obtain ⟨j, rfl, h2⟩ := h1.inv
    cases rx
    cases ry
    exact ⟨i, j, rfl, rfl, h2.now p (.bl _)⟩
  refine (h1.or h2).imp (fun x y P P' hP h => ?_) fun x y Q h => ?_
  · unfold dLt at h ⊢
    split at h <;> first | exact hP _ h | exact False.elim h
  · unfold dLt at h
    split at h
    · exact .inl h
    · exact .inr h
    · exact h.elim
def dAdd (x y : D) (Q : D → Prop) : Prop := match x, y with
  | .int i, .int j => Q (.int (i + j))
  | .str i, .str j => i.length + j.length ≤ sizeLine ∧ Q (.str (i ++ j))
  | .lst a, .lst b => a.length + b.length ≤ sizeLine ∧ Q (.lst (a ++ b))
  | .tup a, .tup b => a.length + b.length ≤ sizeLine ∧ Q (.tup (a ++ b))
  | _, _ => False
theorem opd_add : OpD X dc (binaryOp .Add) dAdd := by
  have h1 : OpD X dc (binaryOp .Add) (fun x y Q => asInt x fun i => asInt y fun j => Q (.int (i + j))) := .ints0 op_add fun _ _ _ => .int _
  have h2 : OpD X dc (binaryOp .Add) (fun x y Q => asStr x fun i => asStr y fun j => i.length + j.length ≤ sizeLine ∧ Q (.str (i ++ j))) := by
    refine ⟨fun x y P P' hP h => asStr.mono (fun i h => asStr.mono (fun j h => ⟨h.1, hP _ h.2⟩) h) h, _, op_add_str, fun F H x y v u Q p rx ry h => ?_⟩
    obtain ⟨i, rfl, h1⟩ := h.inv
    obtain ⟨j, rfl, h2⟩ := h1.inv
    cases rx
    cases ry
    exact ⟨i, j, rfl, rfl, h2.1, h2.2.now p (.str _)⟩
  have h3 : OpD X dc (binaryOp .Add) (fun x y Q => asLst x fun i => asLst y fun j => i.length + j.length ≤ sizeLine ∧ Q (.lst (i ++ j))) := by
    refine ⟨fun x y P P' hP h => asLst.mono (fun i h => asLst.mono (fun j h => ⟨h.1, hP _ h.2⟩) h) h, _, op_cat, fun F H x y v u Q p rx ry h => ?_⟩
    obtain ⟨i, rfl, h1⟩ := h.inv
    obtain ⟨j, rfl, h2⟩ := h1.inv
    obtain ⟨a, vs, rfl, ha, rv⟩ := rx.seqL (K := X.K) p
    obtain ⟨b, us, rfl, hb, ru⟩ := ry.seqL (K := X.K) p
    refine ⟨a, b, vs, us, rfl, rfl, ha, hb, by rw [← rv.length, ← ru.length]; exact h2.1, fun q nq => ?_⟩
    obtain ⟨e, r⟩ := Ext.lst p nq (rv.app ru)
    exact h2.2 _ _ _ e r
  have h4 : OpD X dc (binaryOp .Add) (fun x y Q => asTup x fun i => asTup y fun j => i.length + j.length ≤ sizeLine ∧ Q (.tup (i ++ j))) := by
    refine ⟨fun x y P P' hP h => asTup.mono (fun i h => asTup.mono (fun j h => ⟨h.1, hP _ h.2⟩) h) h, _, op_catA, fun F H x y v u Q p rx ry h => ?_⟩
    obtain ⟨i, rfl, h1⟩ := h.inv
    obtain ⟨j, rfl, h2⟩ := h1.inv
    cases rx with
    | @tup a _ vs ea rv =>
    cases ry with
    | @tup b _ us eb ru =>
    refine ⟨a, b, vs, us, rfl, rfl, .of (p.sub _ _ ea), .of (p.sub _ _ eb), by rw [← rv.length, ← ru.length]; exact h2.1, fun z => ?_, fun z1 z => ?_, fun _ _ q nq => ?_⟩
    · subst z
      obtain rfl := rv.nil_iff
      exact h2.2.now p (by rw [List.nil_append]; exact .tup eb ru)
    · subst z
      obtain rfl := ru.nil_iff
      exact h2.2.now p (by rw [List.append_nil]; exact .tup ea rv)
    · obtain ⟨e, r⟩ := Ext.tup p nq (rv.app ru)
      exact h2.2 _ _ _ e r
  refine ((h1.or h2).or (h3.or h4)).imp (fun x y P P' hP h => ?_) fun x y Q h => ?_
  · unfold dAdd at h ⊢
    split at h <;> first | exact hP _ h | exact ⟨h.1, hP _ h.2⟩ | exact False.elim h
  · unfold dAdd at h
    split at h
    · exact .inl (.inl h)
    · exact .inl (.inr h)
    · exact .inr (.inl h)
    · exact .inr (.inr h)
    · exact h.elim
end
/-! ### subscripts -/
theorem Reps.atI {dc : Option Addr} {F : Hp} {xs : List D} {vs : List V} {i : Int} {x : D} (r : Reps dc F xs vs) (h : atI xs i = some x) : ∃ v, L2.atI vs i = some v ∧ Rep dc F x v := by
  unfold L2.atI at h ⊢
  rw [← r.length]
  cases e : ixN xs.length i with
  | none => rw [e] at h; cases h
  | some j =>
    rw [e] at h
    exact r.get h
def keyOf : D → Option Key
  | .int i => some (.inl i)
  | .str x => some (.inr x)
  | _ => none
def keysOf : List D → Option (List Key)
  | [] => some []
  | x :: xs => match keyOf x, keysOf xs with
    | some k, some ks => some (k :: ks)
    | _, _ => none
def keyT : D → Option (List Key)
  | .tup xs => keysOf xs
  | _ => none
theorem Rep.keyOf {dc : Option Addr} {F : Hp} {x : D} {v : V} {k : Key} (r : Rep dc F x v) (h : keyOf x = some k) : v = kV k := by
  cases r <;> first | (cases h; rfl) | cases h
theorem Reps.keysOf {dc : Option Addr} {F : Hp} : ∀ {x : List D} {v : List V} {k : List Key}, Reps dc F x v → keysOf x = some k → v = k.map kV
  | _, _, _, .nil, h => by cases h; rfl
  | _, _, _, .cons r t, h => by
    unfold KP.keysOf at h
    split at h
    · cases h
      rw [List.map_cons, ← r.keyOf (by assumption), ← Reps.keysOf t (by assumption)]
    · cases h
/-- what the dict x says at the key y -/
def dGetO (x y : D) (Q : Option D → Prop) : Prop := match x with
  | .dK ks vs => match keyOf y with | some k => Q (lookD ks vs k) | none => False
  | .dT ks vs => match keyT y with | some k => Q (lookD ks vs k) | none => False
  | _ => False
theorem dGetO_mono {x y : D} {P Q : Option D → Prop} (h : ∀ o, P o → Q o) (p : dGetO x y P) : dGetO x y Q := by
  unfold dGetO at p ⊢
  split at p
  · split at p <;> first | exact h _ p | exact False.elim p
  · split at p <;> first | exact h _ p | exact False.elim p
  · exact False.elim p
theorem dGetO_read {dc : Option Addr} {F H : Hp} {x y : D} {v u : V} {Q : Option D → Prop} (p : Pre dc F H) (rx : Rep dc F x v) (ry : Rep dc F y u) (h : dGetO x y Q) :
    ∃ a o ov, v = .ref a ∧ DGet H a u ov ∧ IsD H a ∧ Q o ∧ (∀ z, o = some z → ∃ w, ov = some w ∧ Rep dc F z w) ∧ (o = none → ov = none) := by
  unfold dGetO at h
  split at h
  · rename_i ks xs
    split at h
    · rename_i k hk
      cases rx with
      | @dK a _ _ ws ef l rr =>
        have hu := ry.keyOf hk
        subst hu
        have hr := p.sub _ _ ef
        refine ⟨a, _, valV (ks.zip ws) k, rfl, .inl ⟨_, k, hr, rfl, rfl⟩, .inl ⟨_, hr⟩, h, fun z e => ?_, fun e => lookD_none rr e⟩
        exact lookD_rep rr e
    · exact h.elim
  · rename_i ks xs
    split at h
    · rename_i k hk
      cases rx with
      | @dT a _ _ ws ef l rr =>
        have hr := p.sub _ _ ef
        cases ry with
        | @tup b ys us eb rb =>
          have hu := Reps.keysOf rb hk
          subst hu
          refine ⟨a, _, valV (ks.zip ws) k, rfl, .inr ⟨_, k, b, hr, rfl, p.sub _ _ eb, rfl⟩, .inr ⟨_, hr⟩, h, fun z e => ?_, fun e => lookD_none rr e⟩
          exact lookD_rep rr e
        | _ => cases hk
    · exact h.elim
  · exact h.elim
def dSub (x y : D) (Q : D → Prop) : Prop := match x with
  | .lst xs => asInt y fun i => onSome (atI xs i) Q
  | .tup xs => asInt y fun i => onSome (atI xs i) Q
  | .str z => asInt y fun i => ∃ c, z.length ≤ sizeLine ∧ atI z.cps.toList i = some c ∧ Q (.str ⟨#[c]⟩)
  | x => dGetO x y fun o => onSome o Q
section
variable {X : Cx} {dc : Option Addr} {a b : Expr} {da db : DT} {pos : Pos}
theorem dSub_mono : ∀ x y (P P' : D → Prop), (∀ z, P z → P' z) → dSub x y P → dSub x y P' := fun x y P P' hP h => by
  unfold dSub at h ⊢
  split at h
  · exact asInt.mono (fun i h => onSome.mono hP h) h
  · exact asInt.mono (fun i h => onSome.mono hP h) h
  · exact asInt.mono (fun i ⟨c, h1, h2, h3⟩ => ⟨c, h1, h2, hP _ h3⟩) h
  · exact dGetO_mono (fun o h => onSome.mono hP h) h
theorem de_sub (hu : X.A.units + 1 < cLine) (ha : DE X dc a da) (hb : DE X dc b db) (hs : PlainIx b := by exact fun _ _ => rfl) : DE X dc (.Subscript a b pos) (d2 dSub da db) := by
  have ma := ha.mono
  have mb := hb.mono
  obtain ⟨ta, pa, ra⟩ := ha.get
  obtain ⟨tb, pb, rb⟩ := hb.get
  have p1 := pe_ix (pos := pos) (ix_seq (X := X)) ha.pe hb.pe hs
  have p2 := pe_dget (pos := pos) hu ha.pe hb.pe hs
  -- the two readings, chosen behind the parts' evaluation: by the raw rules
  refine ⟨d2_mono dSub_mono ma mb, fun σ H Q => ta σ H fun x H1 => tb σ H1 fun y H2 => (rIx X.K x y H2 Q ∨ ∃ a v, x = .ref a ∧ DGet H2 a y (some v) ∧ Q v H2), ⟨fun pins s σ H Q I h => ?_⟩, fun ρ σ F H Q p s h => ?_⟩
  · refine Subscript_ (binT pa pb I h fun v u s2 x y H2 I2 rx ry q => ?_)
    rcases q with q | ⟨c, w, rfl, g, q⟩
    · exact ix_seq a b pins s2 σ H2 x y v u Q I2 rx ry q (hs _ _)
    · cases rx
      have hd : IsD H2 c := by
        rcases g with ⟨kvs, k, e, _⟩ | ⟨kvs, k, bb, e, _⟩
        · exact .inl ⟨_, e⟩
        · exact .inr ⟨_, e⟩
      obtain ⟨ht, _, _⟩ := isD_at I2 hd
      exact tail_any ht PySem.F.slot_dict_getitem.lookup (d_getItem hu I2 g ry fun w' s' I' rw' => ⟨w, H2, I', rw', q⟩) (hs _ _)
  · refine ra p s h fun x v F1 H1 h e1 r1 => rb e1.pre (s.mono e1.fsub) h fun y u F2 H2 h e2 r2 => ?_
    have r1' := e2.rep r1
    have e12 := e1.trans p e2
    unfold dSub at h
    split at h
    · rename_i xs
      obtain ⟨i, rfl, h1⟩ := h.inv
      obtain ⟨z, hz, q⟩ := h1.inv
      obtain ⟨c, vs, rfl, hc, rv⟩ := r1'.seqL (K := X.K) e2.pre
      obtain ⟨w, hw, rw'⟩ := rv.atI hz
      cases r2
      exact .inl (.inl ⟨c, vs, i, w, rfl, rfl, .of hc, hw, q _ _ _ e12 rw'⟩)
    · rename_i xs
      obtain ⟨i, rfl, h1⟩ := h.inv
      obtain ⟨z, hz, q⟩ := h1.inv
      obtain ⟨c, vs, rfl, hc, rv⟩ := r1'.seqT e2.pre
      obtain ⟨w, hw, rw'⟩ := rv.atI hz
      cases r2
      exact .inl (.inr (.inl ⟨c, vs, i, w, rfl, rfl, .of hc, hw, q _ _ _ e12 rw'⟩))
    · obtain ⟨i, rfl, c, h1, h2, q⟩ := h.inv
      cases r1'
      cases r2
      exact .inl (.inr (.inr ⟨_, i, c, rfl, rfl, h1, h2, q _ _ _ e12 (.str _)⟩))
    · obtain ⟨c, o, ov, rfl, g, _, q, h1, _⟩ := dGetO_read e2.pre r1' r2 h
      obtain ⟨z, rfl, q⟩ := q.inv
      obtain ⟨w, rfl, rw'⟩ := h1 z rfl
      exact .inr ⟨c, w, rfl, g, q _ _ _ e12 rw'⟩
/-- a dict, whatever its keys -/
def asD (x : D) (Q : Prop) : Prop := match x with | .dK _ _ => Q | .dT _ _ => Q | _ => False
theorem asD.mono {x : D} {P Q : Prop} (h : P → Q) (p : asD x P) : asD x Q := by cases x <;> first | exact h p | exact p
theorem asD.read {F H : Hp} {x : D} {v : V} {Q : Prop} (p : Pre dc F H) (rx : Rep dc F x v) (h : asD x Q) : ∃ a, v = .ref a ∧ IsD H a ∧ Q := by
  cases rx with
  | dK ef l r => exact ⟨_, rfl, .inl ⟨_, p.sub _ _ ef⟩, h⟩
  | dT ef l r => exact ⟨_, rfl, .inr ⟨_, p.sub _ _ ef⟩, h⟩
  | _ => exact False.elim h
/-- d.get(k, x) -/
theorem de_get2 {o e f : Expr} {td ty tx : DT} {apos cpos : Pos} (hu : X.A.units + 1 < cLine) (ho : DE X dc o td) (he : DE X dc e ty) (hf : DE X dc f tx) (m : M2 X o "get" apos e f cpos) :
    DE X dc (.Call (.Attribute o "get" apos) [e, f] [] cpos) (fun ρ Q => td ρ fun x => asD x (ty ρ fun y => tx ρ fun z => dGetO x y fun o => Q (o.getD z))) := by
  have m1 := ho.mono
  have m2 := he.mono
  have m3 := hf.mono
  obtain ⟨t1, p1, r1⟩ := ho.get
  obtain ⟨t2, p2, r2⟩ := he.get
  obtain ⟨t3, p3, r3⟩ := hf.get
  refine ⟨fun ρ P P' hP h => m1 _ _ _ (fun x h => asD.mono (fun h => m2 _ _ _ (fun y h => m3 _ _ _ (fun z h => dGetO_mono (fun o h => hP _ h) h) h) h) h) h, _, pe_dget2 hu p1 p2 p3 m, fun ρ σ F H Q p s h => ?_⟩
  refine r1 p s h fun x v F1 H1 h e1 q1 => ?_
  obtain ⟨a, rfl, hd, h⟩ := asD.read e1.pre q1 h
  refine ⟨a, rfl, hd, r2 e1.pre (s.mono e1.fsub) h fun y u F2 H2 h e2 q2 => r3 e2.pre ((s.mono e1.fsub).mono e2.fsub) h fun z w F3 H3 h e3 q3 => ?_⟩
  obtain ⟨c, o, ov, ec, g, _, q, h1, h2⟩ := dGetO_read e3.pre (e3.rep (e2.rep q1)) (e3.rep q2) h
  cases ec
  refine ⟨ov, g, ?_⟩
  have e13 := (e1.trans p e2).trans p e3
  cases o with
  | none =>
    rw [h2 rfl]
    exact q _ _ _ e13 q3
  | some z' =>
    obtain ⟨w', rfl, rw'⟩ := h1 z' rfl
    exact q _ _ _ e13 rw'
/-- k in d, k in a list or tuple -/
def dInA (neg : Bool) (x y : D) (Q : D → Prop) : Prop := match y with
  | .lst ys => flatD x = true ∧ ys.all flatD = true ∧ Q (.bl (neg ^^ inD x ys))
  | .tup ys => flatD x = true ∧ ys.all flatD = true ∧ Q (.bl (neg ^^ inD x ys))
  | y => dGetO y x fun o => Q (.bl (neg ^^ o.isSome))
theorem dInA_mono {neg : Bool} : ∀ x y (P P' : D → Prop), (∀ z, P z → P' z) → dInA neg x y P → dInA neg x y P' := fun x y P P' hP h => by
  unfold dInA at h ⊢
  split at h
  · exact ⟨h.1, h.2.1, hP _ h.2.2⟩
  · exact ⟨h.1, h.2.1, hP _ h.2.2⟩
  · exact dGetO_mono (fun o h => hP _ h) h
theorem op_dict_in (hu : X.A.units + 1 < cLine) : OpR X (compareOp .In) (fun x y H Q => ∃ a o, y = .ref a ∧ DGet H a x o ∧ Q (.bl o.isSome) H) := by
  intro pins s σ H x y v u Q I rx ry h
  obtain ⟨a, o, rfl, g, q⟩ := h
  cases ry
  exact d_in hu I g rx fun s' I' => ⟨.bl o.isSome, H, I', rfl, q⟩
theorem op_dict_notin (hu : X.A.units + 1 < cLine) : OpR X (compareOp .NotIn) (fun x y H Q => ∃ a o, y = .ref a ∧ DGet H a x o ∧ Q (.bl (!o.isSome)) H) := by
  intro pins s σ H x y v u Q I rx ry h
  obtain ⟨a, o, rfl, g, q⟩ := h
  cases ry
  exact d_notIn hu I g rx fun s' I' => ⟨.bl (!o.isSome), H, I', rfl, q⟩
theorem opd_inA (hu : X.A.units + 1 < cLine) : OpD X dc (compareOp .In) (dInA false) := by
  have h2 : OpD X dc (compareOp .In) (fun x y Q => dGetO y x fun o => Q (.bl o.isSome)) := by
    refine ⟨fun x y P P' hP h => dGetO_mono (fun o h => hP _ h) h, _, op_dict_in hu, fun F H x y v u Q p rx ry h => ?_⟩
    obtain ⟨c, o, ov, rfl, g, _, q, h1, h2⟩ := dGetO_read p ry rx h
    refine ⟨c, ov, rfl, g, ?_⟩
    have e : ov.isSome = o.isSome := by
      cases o with
      | none => rw [h2 rfl]; rfl
      | some z => obtain ⟨w, rfl, _⟩ := h1 z rfl; rfl
    rw [e]
    exact q.now p (.bl _)
  refine (opd_in.or h2).imp dInA_mono fun x y Q h => ?_
  unfold dInA at h
  split at h
  · exact .inl h
  · exact .inl h
  · exact .inr (dGetO_mono (fun o h => by simpa using h) h)
theorem opd_notinA (hu : X.A.units + 1 < cLine) : OpD X dc (compareOp .NotIn) (dInA true) := by
  have h2 : OpD X dc (compareOp .NotIn) (fun x y Q => dGetO y x fun o => Q (.bl (!o.isSome))) := by
    refine ⟨fun x y P P' hP h => dGetO_mono (fun o h => hP _ h) h, _, op_dict_notin hu, fun F H x y v u Q p rx ry h => ?_⟩
    obtain ⟨c, o, ov, rfl, g, _, q, h1, h2⟩ := dGetO_read p ry rx h
    refine ⟨c, ov, rfl, g, ?_⟩
    have e : ov.isSome = o.isSome := by
      cases o with
      | none => rw [h2 rfl]; rfl
      | some z => obtain ⟨w, rfl, _⟩ := h1 z rfl; rfl
    rw [e]
    exact q.now p (.bl _)
  refine (opd_notin.or h2).imp dInA_mono fun x y Q h => ?_
  unfold dInA at h
  split at h
  · exact .inl h
  · exact .inl h
  · exact .inr (dGetO_mono (fun o h => by simpa using h) h)
end
/-! ### calls of built-in things -/
structure CallD (X : Cx) (dc : Option Addr) (f : Value) (g : List D → (D → Prop) → Prop) : Prop where
  mono : ∀ xs P P', (∀ z, P z → P' z) → g xs P → g xs P'
  run : ∃ r, CallR X f r ∧ ∀ F H xs vs Q, Pre dc F H → Reps dc F xs vs → g xs (KV' dc F H Q) → r vs H Q
def dCall (g : List D → (D → Prop) → Prop) (d : DTA) : DT := fun ρ Q => d ρ fun xs => g xs Q
section
variable {X : Cx} {dc : Option Addr} {e : Expr} {es : List Expr} {d : DTA} {x : Str} {p pos : Pos} {g : List D → (D → Prop) → Prop}
theorem CallD.or {f : Value} {g g' : List D → (D → Prop) → Prop} (h : CallD X dc f g) (h' : CallD X dc f g') : CallD X dc f (fun xs Q => g xs Q ∨ g' xs Q) := by
  obtain ⟨m, r, o, q⟩ := h
  obtain ⟨m', r', o', q'⟩ := h'
  exact ⟨fun x P P' hP z => z.elim (fun z => .inl (m _ _ _ hP z)) fun z => .inr (m' _ _ _ hP z), fun x H Q => r x H Q ∨ r' x H Q, fun pins s σ H xs us Q I rx z => Or.elim z (o pins s σ H xs us Q I rx) (o' pins s σ H xs us Q I rx),
    fun F H x v Q p rx z => z.elim (fun z => .inl (q F H x v Q p rx z)) fun z => .inr (q' F H x v Q p rx z)⟩
theorem CallD.imp {f : Value} {g g' : List D → (D → Prop) → Prop} (h : CallD X dc f g) (m : ∀ xs P P', (∀ z, P z → P' z) → g' xs P → g' xs P') (i : ∀ xs Q, g' xs Q → g xs Q) : CallD X dc f g' := by
  obtain ⟨_, r, o, q⟩ := h
  exact ⟨m, r, o, fun F H x v Q p rx z => q F H x v Q p rx (i _ _ z)⟩
theorem de_callB {id : String} (hc : CallD X dc (.builtin id) g) (hg : Gl X x) (hm : X.mg x = none) (hv : bootBuiltins x = some (.builtin id)) (ha : DA X dc (e :: es) d) (hn : x ≠ "__name__" := by decide) (hdb : (x == ("__debug__" : Str)) = false := by decide)
    (he : starEach (e :: es) X.env = (false, eval e X.env) :: starEach es X.env := by rfl) (hpl : (backTo pos (starEach es X.env)).any (·.1) = false := by rfl) : DE X dc (.Call (.Name x p) (e :: es) [] pos) (dCall g d) := by
  obtain ⟨m, r, o, q⟩ := hc
  have ma := ha.mono
  obtain ⟨t, pt, rt⟩ := ha.get
  refine ⟨fun ρ P P' hP h => ma _ _ _ (fun xs h => m _ _ _ hP h) h, _, pe_callB o hg hm hv pt hn hdb he hpl, fun ρ σ F H Q pr s h => rt pr s h fun xs vs F1 H1 h e1 r1 => ?_⟩
  exact q _ _ _ _ _ e1.pre r1 (m _ _ _ (fun z hz => hz.on pr e1) h)
theorem de_callTy {T : String} (hc : CallD X dc (.type T) g) (hg : Gl X x) (hm : X.mg x = none) (hv : bootBuiltins x = some (.type T)) (ha : DA X dc (e :: es) d) (hn : x ≠ "__name__" := by decide) (hdb : (x == ("__debug__" : Str)) = false := by decide)
    (he : starEach (e :: es) X.env = (false, eval e X.env) :: starEach es X.env := by rfl) (hpl : (backTo pos (starEach es X.env)).any (·.1) = false := by rfl) : DE X dc (.Call (.Name x p) (e :: es) [] pos) (dCall g d) := by
  obtain ⟨m, r, o, q⟩ := hc
  have ma := ha.mono
  obtain ⟨t, pt, rt⟩ := ha.get
  refine ⟨fun ρ P P' hP h => ma _ _ _ (fun xs h => m _ _ _ hP h) h, _, pe_callTy o hg hm hv pt hn hdb he hpl, fun ρ σ F H Q pr s h => rt pr s h fun xs vs F1 H1 h e1 r1 => ?_⟩
  exact q _ _ _ _ _ e1.pre r1 (m _ _ _ (fun z hz => hz.on pr e1) h)
end
/-- the only argument -/
def arg1 (g : D → (D → Prop) → Prop) : List D → (D → Prop) → Prop := fun xs Q => match xs with | [x] => g x Q | _ => False
def arg2 (g : D → D → (D → Prop) → Prop) : List D → (D → Prop) → Prop := fun xs Q => match xs with | [x, y] => g x y Q | _ => False
theorem arg1.mono {g : D → (D → Prop) → Prop} (m : ∀ x P P', (∀ z, P z → P' z) → g x P → g x P') : ∀ xs P P', (∀ z, P z → P' z) → arg1 g xs P → arg1 g xs P' := fun xs P P' hP h => by
  unfold arg1 at h ⊢
  split at h
  · exact m _ _ _ hP h
  · exact False.elim h
theorem arg2.mono {g : D → D → (D → Prop) → Prop} (m : ∀ x y P P', (∀ z, P z → P' z) → g x y P → g x y P') : ∀ xs P P', (∀ z, P z → P' z) → arg2 g xs P → arg2 g xs P' := fun xs P P' hP h => by
  unfold arg2 at h ⊢
  split at h
  · exact m _ _ _ _ hP h
  · exact False.elim h
theorem arg1.inv {g : D → (D → Prop) → Prop} {xs : List D} {Q : D → Prop} (h : arg1 g xs Q) : ∃ x, xs = [x] ∧ g x Q := by
  unfold arg1 at h
  split at h
  · exact ⟨_, rfl, h⟩
  · exact False.elim h
theorem arg2.inv {g : D → D → (D → Prop) → Prop} {xs : List D} {Q : D → Prop} (h : arg2 g xs Q) : ∃ x y, xs = [x, y] ∧ g x y Q := by
  unfold arg2 at h
  split at h
  · exact ⟨_, _, rfl, h⟩
  · exact False.elim h
section
variable {X : Cx} {dc : Option Addr}
/-- a call of one thing -/
theorem CallD.one {f : Value} {r : List V → Hp → VK → Prop} {g : D → (D → Prop) → Prop} (m : ∀ x P P', (∀ z, P z → P' z) → g x P → g x P') (h : CallR X f r) (q : ∀ F H x v Q, Pre dc F H → Rep dc F x v → g x (KV' dc F H Q) → r [v] H Q) : CallD X dc f (arg1 g) := by
  refine ⟨arg1.mono m, r, h, fun F H xs vs Q p rx hq => ?_⟩
  obtain ⟨x, rfl, hq⟩ := hq.inv
  cases rx with
  | cons a b =>
    cases b
    exact q F H x _ Q p a hq
theorem CallD.two {f : Value} {r : List V → Hp → VK → Prop} {g : D → D → (D → Prop) → Prop} (m : ∀ x y P P', (∀ z, P z → P' z) → g x y P → g x y P') (h : CallR X f r) (q : ∀ F H x y v u Q, Pre dc F H → Rep dc F x v → Rep dc F y u → g x y (KV' dc F H Q) → r [v, u] H Q) : CallD X dc f (arg2 g) := by
  refine ⟨arg2.mono m, r, h, fun F H xs vs Q p rx hq => ?_⟩
  obtain ⟨x, y, rfl, hq⟩ := hq.inv
  cases rx with
  | cons a b =>
    cases b with
    | cons b c =>
      cases c
      exact q F H x y _ _ Q p a b hq
def intsOf : List D → Option (List Int)
  | [] => some []
  | .int i :: r => (intsOf r).map (i :: ·)
  | _ => none
def blsOf : List D → Option (List Bool)
  | [] => some []
  | .bl i :: r => (blsOf r).map (i :: ·)
  | _ => none
def strsOf : List D → Option (List Str)
  | [] => some []
  | .str i :: r => (strsOf r).map (i :: ·)
  | _ => none
theorem intsOf_eq : ∀ {xs : List D} {ns : List Int}, intsOf xs = some ns → xs = ns.map D.int
  | [], _, h => by cases h; rfl
  | .int i :: r, ns, h => by
    obtain ⟨ms, h1, rfl⟩ := Option.map_eq_some_iff.mp h
    rw [List.map_cons, intsOf_eq h1]
  | .non :: _, _, h => by cases h
  | .bl _ :: _, _, h => by cases h
  | .str _ :: _, _, h => by cases h
  | .ty _ :: _, _, h => by cases h
  | .cell :: _, _, h => by cases h
  | .lst _ :: _, _, h => by cases h
  | .tup _ :: _, _, h => by cases h
  | .dK _ _ :: _, _, h => by cases h
  | .dT _ _ :: _, _, h => by cases h
  | .ins _ _ _ :: _, _, h => by cases h
  | .raw _ :: _, _, h => by cases h
theorem blsOf_eq : ∀ {xs : List D} {ns : List Bool}, blsOf xs = some ns → xs = ns.map D.bl
  | [], _, h => by cases h; rfl
  | .bl i :: r, ns, h => by
    obtain ⟨ms, h1, rfl⟩ := Option.map_eq_some_iff.mp h
    rw [List.map_cons, blsOf_eq h1]
  | .non :: _, _, h => by cases h
  | .int _ :: _, _, h => by cases h
  | .str _ :: _, _, h => by cases h
  | .ty _ :: _, _, h => by cases h
  | .cell :: _, _, h => by cases h
  | .lst _ :: _, _, h => by cases h
  | .tup _ :: _, _, h => by cases h
  | .dK _ _ :: _, _, h => by cases h
  | .dT _ _ :: _, _, h => by cases h
  | .ins _ _ _ :: _, _, h => by cases h
  | .raw _ :: _, _, h => by cases h
theorem strsOf_eq : ∀ {xs : List D} {ns : List Str}, strsOf xs = some ns → xs = ns.map D.str
  | [], _, h => by cases h; rfl
  | .str i :: r, ns, h => by
    obtain ⟨ms, h1, rfl⟩ := Option.map_eq_some_iff.mp h
    rw [List.map_cons, strsOf_eq h1]
  | .non :: _, _, h => by cases h
  | .int _ :: _, _, h => by cases h
  | .bl _ :: _, _, h => by cases h
  | .ty _ :: _, _, h => by cases h
  | .cell :: _, _, h => by cases h
  | .lst _ :: _, _, h => by cases h
  | .tup _ :: _, _, h => by cases h
  | .dK _ _ :: _, _, h => by cases h
  | .dT _ _ :: _, _, h => by cases h
  | .ins _ _ _ :: _, _, h => by cases h
  | .raw _ :: _, _, h => by cases h
theorem intsOf_map : ∀ (ns : List Int), intsOf (ns.map D.int) = some ns
  | [] => rfl
  | i :: r => by rw [List.map_cons]; unfold intsOf; rw [intsOf_map r]; rfl
theorem blsOf_map : ∀ (ns : List Bool), blsOf (ns.map D.bl) = some ns
  | [] => rfl
  | i :: r => by rw [List.map_cons]; unfold blsOf; rw [blsOf_map r]; rfl
theorem strsOf_map : ∀ (ns : List Str), strsOf (ns.map D.str) = some ns
  | [] => rfl
  | i :: r => by rw [List.map_cons]; unfold strsOf; rw [strsOf_map r]; rfl
/-- a list of ints, .. -/
def asInts (x : D) (Q : List Int → Prop) : Prop := asLst x fun xs => match intsOf xs with | some ns => Q ns | none => False
def asBls (x : D) (Q : List Bool → Prop) : Prop := asLst x fun xs => match blsOf xs with | some ns => Q ns | none => False
def asStrs (x : D) (Q : List Str → Prop) : Prop := asLst x fun xs => match strsOf xs with | some ns => Q ns | none => False
theorem asInts.inv {x : D} {Q : List Int → Prop} (h : asInts x Q) : ∃ ns, x = .lst (ns.map D.int) ∧ Q ns := by
  have hh := asLst.inv h
  clear h
  obtain ⟨xs, rfl, h⟩ := hh
  split at h
  · rename_i e
    exact ⟨_, congrArg D.lst (intsOf_eq e), h⟩
  · exact False.elim h
theorem asBls.inv {x : D} {Q : List Bool → Prop} (h : asBls x Q) : ∃ ns, x = .lst (ns.map D.bl) ∧ Q ns := by
  have hh := asLst.inv h
  clear h
  obtain ⟨xs, rfl, h⟩ := hh
  split at h
  · rename_i e
    exact ⟨_, congrArg D.lst (blsOf_eq e), h⟩
  · exact False.elim h
theorem asStrs.inv {x : D} {Q : List Str → Prop} (h : asStrs x Q) : ∃ ns, x = .lst (ns.map D.str) ∧ Q ns := by
  have hh := asLst.inv h
  clear h
  obtain ⟨xs, rfl, h⟩ := hh
  split at h
  · rename_i e
    exact ⟨_, congrArg D.lst (strsOf_eq e), h⟩
  · exact False.elim h
theorem asInts.of {ns : List Int} {Q : List Int → Prop} (h : Q ns) : asInts (.lst (ns.map D.int)) Q := by
  show (match intsOf (ns.map D.int) with | some ns => Q ns | none => False)
  rw [intsOf_map]
  exact h
theorem asBls.of {ns : List Bool} {Q : List Bool → Prop} (h : Q ns) : asBls (.lst (ns.map D.bl)) Q := by
  show (match blsOf (ns.map D.bl) with | some ns => Q ns | none => False)
  rw [blsOf_map]
  exact h
theorem asStrs.of {ns : List Str} {Q : List Str → Prop} (h : Q ns) : asStrs (.lst (ns.map D.str)) Q := by
  show (match strsOf (ns.map D.str) with | some ns => Q ns | none => False)
  rw [strsOf_map]
  exact h
theorem asInts.mono {x : D} {P Q : List Int → Prop} (h : ∀ i, P i → Q i) (p : asInts x P) : asInts x Q := by obtain ⟨ns, rfl, q⟩ := p.inv; exact .of (h _ q)
theorem asBls.mono {x : D} {P Q : List Bool → Prop} (h : ∀ i, P i → Q i) (p : asBls x P) : asBls x Q := by obtain ⟨ns, rfl, q⟩ := p.inv; exact .of (h _ q)
theorem asStrs.mono {x : D} {P Q : List Str → Prop} (h : ∀ i, P i → Q i) (p : asStrs x P) : asStrs x Q := by obtain ⟨ns, rfl, q⟩ := p.inv; exact .of (h _ q)
theorem cd_sum (hc : X.calm = true) : CallD X dc (.builtin "sum") (arg1 fun x Q => asInts x fun ns => Q (.int ns.sum)) :=
  .one (fun x P P' hP h => asInts.mono (fun ns h => hP _ h) h) (cr_sum hc) fun F H x v Q p rx h => by
    have hh := h.inv
    clear h
    obtain ⟨ns, rfl, h⟩ := hh
    obtain ⟨a, vs, rfl, ha, rv⟩ := rx.seqL (K := X.K) p
    rw [rv.ints_eq] at ha
    exact ⟨a, ns, rfl, .of ha, h.now p (.int _)⟩
theorem cd_max (hc : X.calm = true) : CallD X dc (.builtin "max") (arg1 fun x Q => asInts x fun ns => 0 < ns.length ∧ ∀ m, m ∈ ns → (∀ y, y ∈ ns → y ≤ m) → Q (.int m)) :=
  .one (fun x P P' hP h => asInts.mono (fun ns h => ⟨h.1, fun m h1 h2 => hP _ (h.2 m h1 h2)⟩) h) (cr_max hc) fun F H x v Q p rx h => by
    have hh := h.inv
    clear h
    obtain ⟨ns, rfl, h⟩ := hh
    obtain ⟨a, vs, rfl, ha, rv⟩ := rx.seqL (K := X.K) p
    rw [rv.ints_eq] at ha
    exact ⟨a, ns, rfl, .of ha, h.1, fun m h1 h2 => (h.2 m h1 h2).now p (.int _)⟩
theorem cd_len : CallD X dc (.builtin "len") (arg1 fun x Q => asSeq x fun xs => Q (.int xs.length)) :=
  .one (fun x P P' hP h => asSeq.mono (fun ns h => hP _ h) h) call_len_seq fun F H x v Q p rx h => by
    obtain ⟨xs, hx, h⟩ := h.inv
    obtain ⟨a, vs, rfl, ha, rv⟩ := rx.seq p hx (K := X.K)
    exact ⟨a, vs, rfl, ha, by rw [← rv.length]; exact h.now p (.int _)⟩
theorem cd_list : CallD X dc (.type "list") (arg1 fun x Q => asSeq x fun xs => Q (.lst xs)) :=
  .one (fun x P P' hP h => asSeq.mono (fun ns h => hP _ h) h) call_list_of fun F H x v Q p rx h => by
    obtain ⟨xs, hx, h⟩ := h.inv
    obtain ⟨a, vs, rfl, ha, rv⟩ := rx.seq p hx (K := X.K)
    refine ⟨a, vs, rfl, ha, fun l nl => ?_⟩
    obtain ⟨e, r⟩ := Ext.lst p nl rv
    exact h _ _ _ e r
theorem cd_tuple : CallD X dc (.type "tuple") (arg1 fun x Q => asSeq x fun xs => Q (.tup xs)) :=
  .one (fun x P P' hP h => asSeq.mono (fun ns h => hP _ h) h) call_tuple_of fun F H x v Q p rx h => by
    obtain ⟨xs, hx, h⟩ := h.inv
    rcases hx with rfl | rfl
    · obtain ⟨a, vs, rfl, ha, rv⟩ := rx.seqL (K := X.K) p
      refine ⟨a, vs, rfl, .inl ⟨.of ha, fun l nl => ?_⟩⟩
      obtain ⟨e, r⟩ := Ext.tup p nl rv
      exact h _ _ _ e r
    · cases rx with
      | tup ea rv => exact ⟨_, _, rfl, .inr ⟨.of (p.sub _ _ ea), h.now p (.tup ea rv)⟩⟩
theorem cd_sortedS : CallD X dc (.builtin "sorted") (arg1 fun x Q => asStrs x fun ns => ns.length < 64 ∧ ∀ ms : List Str, ms.Perm ns → sortedS ms = true → Q (.lst (ms.map D.str))) :=
  .one (fun x P P' hP h => asStrs.mono (fun ns h => ⟨h.1, fun m h1 h2 => hP _ (h.2 m h1 h2)⟩) h) cr_sortedS fun F H x v Q p rx h => by
    have hh := h.inv
    clear h
    obtain ⟨ns, rfl, h⟩ := hh
    obtain ⟨a, vs, rfl, ha, rv⟩ := rx.seqL (K := X.K) p
    rw [rv.strs_eq] at ha
    refine ⟨a, ns, rfl, .of ha, h.1, fun ms q h1 h2 nq => ?_⟩
    obtain ⟨e, r⟩ := Ext.lst p nq (Reps.strs (dc := dc) (F := F) ms)
    exact h.2 ms h1 h2 _ _ _ e r
/-! isinstance -/
inductive TyD (K : PySem.W.Frag) : D → Value → Prop
  | non : TyD K .non (.type "NoneType")
  | bl (b : Bool) : TyD K (.bl b) (.type "bool")
  | int (i : Int) : TyD K (.int i) (.type "int")
  | str (x : Str) : TyD K (.str x) (.type "str")
  | lst (xs : List D) : TyD K (.lst xs) (.type "list")
  | tup (xs : List D) : TyD K (.tup xs) (.type "tuple")
  | ins {C : Addr} (c : C8.InsC K C) (ns : List Str) (vs : List D) : TyD K (.ins C ns vs) (.ref C)
  | dK (ks : List Key) (vs : List D) : TyD K (.dK ks vs) (.type "dict")
  | dT (ks : List (List Key)) (vs : List D) : TyD K (.dT ks vs) (.type "dict")
def TyG (K : PySem.W.Frag) (H : Hp) (x : V) (t : Value) : Prop := TyX K H x t ∨ ∃ a o kvs, x = .ref a ∧ t = .type "dict" ∧ H a = some (.frz o (.dT kvs))
def rIsiG (K : PySem.W.Frag) : List V → Hp → VK → Prop := fun xs H Q => ∃ (x c : V) (t u : Value) (b : Bool), xs = [x, c] ∧ ClsV c u ∧ TyG K H x t ∧ PySem.W.kitOne K t u = some b ∧ Q (.bl b) H
theorem call_isiG : CallR X (.builtin "isinstance") (rIsiG X.K) := by
  intro pins s σ H xs us Q I r h
  obtain ⟨x, c, t, u, b, rfl, k, ty, e, q⟩ := h
  rcases ty with ty | ⟨a, o, kvs, rfl, rfl, ha⟩
  · exact call_isi pins s σ H _ us Q I r ⟨x, c, t, u, b, rfl, k, ty, e, q⟩
  · obtain ⟨u1, u2, rfl, r1, r2⟩ := vals2 r
    have e2 := k.eq r2
    subst e2
    cases (show u1 = Value.ref a from r1)
    obtain ⟨_, _, _, xs, _, o, es, ep, h1, h2, _⟩ := (show ObjOk X.prog X.w H s.heap a (.frz o (.dT kvs)) from I.hok a _ ha)
    exact PySem.W.kia_one PySem.W.kitx_dict I.kIn ⟨o, h1, h2.1⟩ e (fun z => nomatch z) fun tk => ⟨.bl b, H, I.tok tk, rfl, q⟩
inductive ClD : D → Value → Prop
  | ty (n : String) : ClD (.ty n) (.type n)
  | own (C : Addr) : ClD (.raw (.ref C)) (.ref C)
theorem cd_isi {K : PySem.W.Frag} (hK : X.K = K) : CallD X dc (.builtin "isinstance") (arg2 fun x c Q => ∃ t u b, TyD K x t ∧ ClD c u ∧ PySem.W.kitOne K t u = some b ∧ Q (.bl b)) := by
  subst hK
  exact .two (fun x y P P' hP ⟨t, u, b, h1, h2, h3, h4⟩ => ⟨t, u, b, h1, h2, h3, hP _ h4⟩) call_isiG fun F H x y v w Q p rx ry h => by
    obtain ⟨t, u, b, h1, h2, h3, h4⟩ := h
    have hk : ClsV w u := by
      cases h2 with
      | ty n => cases ry; exact .ty n
      | own C => cases ry; exact .own C
    refine ⟨v, w, t, u, b, rfl, hk, ?_, h3, h4.now p (.bl _)⟩
    cases h1 with
    | non => cases rx; exact .inl <| .base .non
    | bl b => cases rx; exact .inl <| .base (.bl b)
    | int b => cases rx; exact .inl <| .base (.int b)
    | str b => cases rx; exact .inl <| .base (.str b)
    | lst xs => obtain ⟨a, vs, rfl, ha, _⟩ := rx.seqL (K := X.K) p; exact .inl <| .base (.lst ha)
    | tup xs => obtain ⟨a, vs, rfl, ha, _⟩ := rx.seqT p; exact .inl <| .base (.tup ha)
    | ins c ns vs => obtain ⟨a, dx, ws, rfl, _, ha, _⟩ := rx.insr p; exact .inl <| .base (.ins ha c.cl c.ha c.hn c.htk c.hm)
    | dK ks vs =>
      obtain ⟨a, ws, rfl, _, ha, _⟩ := rx.dKr p
      rcases ha with ha | ⟨o, ha⟩
      · exact .inl (.base (.dK ha))
      · exact .inl (.fDict ha)
    | dT ks vs =>
      obtain ⟨a, ws, rfl, _, ha, _⟩ := rx.dTr p
      rcases ha with ha | ⟨o, ha⟩
      · exact .inl (.base (.dT ha))
      · exact .inr ⟨a, o, _, rfl, rfl, ha⟩
end
/-! ### own defs by data -/
abbrev DSp := List D → (D → Prop) → Prop
/-- a promise by data -/
def spD (sp : DSp) : Sp := fun vs H Q _ => ∃ dc F xs, Pre dc F H ∧ Reps dc F xs vs ∧ sp xs (KV' dc F H Q)
def Mono (sp : DSp) : Prop := ∀ xs P P', (∀ y, P y → P' y) → sp xs P → sp xs P'
/-- the values of defaults -/
def Flats (dfl : List D) (dvs : List V) : Prop := ∀ dc F, Reps dc F dfl dvs
theorem flats_nil : Flats [] [] := fun _ _ => .nil
/-- a def of the module, called by its name -/
structure DFn (P : Program) (w : World) (K : PySem.W.Frag) (mg : Str → Option Value) (base : Heap) (k : Nat) (x : Str) (dfl : List D) (sp : DSp) : Prop where
  mono : Mono sp
  ex : ∃ (f : Addr) (fd : FuncData) (ps : List Str) (ds : List Value) (dvs : List V), FnOk P w K mg base CX0 k f fd ps (spD sp) ∧ mg x = some (.ref f) ∧ PySem.W.keepIn K (.ref f) = true ∧ Binds K fd ps ds ∧ Vals dvs ds ∧ Flats dfl dvs
/-- a method, a property of the class at C -/
structure DMt (P : Program) (w : World) (K : PySem.W.Frag) (mg : Str → Option Value) (base : Heap) (k : Nat) (C : Addr) (m : Str) (dfl : List D) (sp : DSp) : Prop where
  mono : Mono sp
  ex : ∃ (f : Addr) (fd : FuncData) (ps : List Str) (ds : List Value) (dvs : List V), FnOk P w K mg base CX0 k f fd ps (spD sp) ∧ Cls K C ∧ Meth K C m f ∧ Binds K fd ps ds ∧ Vals dvs ds ∧ Flats dfl dvs
structure DPr (P : Program) (w : World) (K : PySem.W.Frag) (mg : Str → Option Value) (base : Heap) (k : Nat) (C : Addr) (m : Str) (sp : DSp) : Prop where
  mono : Mono sp
  ex : ∃ (f p : Addr) (fd : FuncData) (ps : List Str), FnOk P w K mg base CX0 k f fd ps (spD sp) ∧ Cls K C ∧ PropOf K C m p f ∧ Binds K fd ps []
section
variable {X : Cx} {dc : Option Addr} {e o : Expr} {es : List Expr} {d : DTA} {dt : DT} {x m : Str} {p pos apos : Pos} {sp : DSp} {dfl : List D} {k j : Nat} {C : Addr}
/-- f(e, ..) -/
def dFn (sp : DSp) (dfl : List D) (d : DTA) : DT := fun ρ Q => d ρ fun xs => sp (xs ++ dfl) Q
theorem de_fn (G : DFn X.prog X.w X.K X.mg X.base k x dfl sp) (hr : Room j X.A) (hk : k ≤ j) (hg : Gl X x) (ha : DA X dc (e :: es) d)
    (hdb : (x == ("__debug__" : Str)) = false := by decide) (he : starEach (e :: es) X.env = (false, eval e X.env) :: starEach es X.env := by rfl) (hpl : (backTo pos (starEach es X.env)).any (·.1) = false := by rfl) :
    DE X dc (.Call (.Name x p) (e :: es) [] pos) (dFn sp dfl d) := by
  obtain ⟨ms, f, fd, ps, ds, dvs, F, hm, kp, b, vd, fl⟩ := G
  have ma := ha.mono
  obtain ⟨t, pt, rt⟩ := ha.get
  refine ⟨fun ρ P P' hP h => ma _ _ _ (fun xs h => ms _ _ _ hP h) h, _, pe_call F (hr.mono hk) hg hm kp b vd pass0 pt hdb he hpl, fun ρ σ F H Q pr s h => rt pr s h fun xs vs F1 H1 h e1 r1 => ?_⟩
  exact ⟨dc, F1, xs ++ dfl, e1.pre, r1.app (fl _ _), ms _ _ _ (fun z hz => hz.on pr e1) h⟩
/-- e.f, a property -/
def dPr (C : Addr) (sp : DSp) (d : DT) : DT := fun ρ Q => d ρ fun x => asIns x fun C' ns vs => C' = C ∧ sp [x] Q
theorem de_prop (G : DPr X.prog X.w X.K X.mg X.base k C m sp) (hr : Room j X.A) (hk : k + 1 ≤ j) (ho : DE X dc o dt) (hab : attributeBase o m X.env (eval o X.env) = eval o X.env := by rfl) : DE X dc (.Attribute o m pos) (dPr C sp dt) := by
  obtain ⟨ms, f, pp, fd, ps, F, c, hp, b⟩ := G
  have ma := ho.mono
  obtain ⟨t, pt, rt⟩ := ho.get
  refine ⟨fun ρ P P' hP h => ma _ _ _ (fun xs h => asIns.mono (fun _ _ _ h => ⟨h.1, ms _ _ _ hP h.2⟩) h) h, _, pe_prop pt c hp F (hr.mono hk) b .nil pass0 hab, fun ρ σ F H Q pr s h => rt pr s h fun x v F1 H1 h e1 r1 => ?_⟩
  obtain ⟨C', ns, vs, rfl, rfl, hq⟩ := h.inv
  obtain ⟨a, dx, ws, rfl, _, ha, _⟩ := r1.insr e1.pre
  exact ⟨a, dx, _, rfl, ha, dc, F1, _, e1.pre, .cons r1 .nil, ms _ _ _ (fun z hz => hz.on pr e1) hq⟩
/-- o.m(e, ..), o.m() -/
def dMt (C : Addr) (m : Str) (sp : DSp) (dfl : List D) (d : DT) (da : DTA) : DT := fun ρ Q => d ρ fun x => asIns x fun C' ns vs => C' = C ∧ m ∉ ns ∧ da ρ fun xs => sp (x :: (xs ++ dfl)) Q
theorem lookup_none_of {ns : List Str} {m : Str} (h : m ∉ ns) (vs : List V) : (ns.zip vs).lookup m = none := by
  induction ns generalizing vs with
  | nil => rfl
  | cons n ns ih =>
    cases vs with
    | nil => rfl
    | cons v vs =>
      rw [List.zip_cons_cons, List.lookup_cons]
      have : (m == n) = false := by
        rw [beq_eq_false_iff_ne]
        exact fun z => h (by rw [z]; exact List.mem_cons_self)
      rw [this]
      exact ih (fun z => h (List.mem_cons_of_mem _ z)) vs
theorem de_meth {pl : Sem Bool} (G : DMt X.prog X.w X.K X.mg X.base k C m dfl sp) (hr : Room j X.A) (hk : k ≤ j) (ho : DE X dc o dt) (ha : DA X dc (e :: es) d)
    (hst : starEach (e :: es) X.env = (false, eval e X.env) :: starEach es X.env := by rfl) (hpl : (backTo pos (starEach es X.env)).any (·.1) = false := by rfl)
    (ht : eval (.Call (.Attribute o m apos) (e :: es) [] pos) X.env = (do
      let ov ← eval o X.env
      standAt apos.atName
      let (f, first) ← holding [ov] (getMethod ov m pl)
      callWith pos f first (backTo pos (starEach (e :: es) X.env)) (backToKw pos (keywordEach [] X.env))) := by rfl) :
    DE X dc (.Call (.Attribute o m apos) (e :: es) [] pos) (dMt C m sp dfl dt d) := by
  obtain ⟨ms, f, fd, ps, ds, dvs, F, c, hm, b, vd, fl⟩ := G
  have mo := ho.mono
  have ma := ha.mono
  obtain ⟨t1, p1, r1⟩ := ho.get
  obtain ⟨t2, p2, r2⟩ := ha.get
  refine ⟨fun ρ P P' hP h => mo _ _ _ (fun x h => asIns.mono (fun _ _ _ h => ⟨h.1, h.2.1, ma _ _ _ (fun xs h => ms _ _ _ hP h) h.2.2⟩) h) h, _, pe_meth (pl := pl) p1 c hm F (hr.mono hk) b vd pass0 p2 hst hpl ht, fun ρ σ F H Q pr s h => r1 pr s h fun x v F1 H1 h e1 q1 => ?_⟩
  obtain ⟨C', ns, vs, rfl, rfl, hn, hq⟩ := h.inv
  obtain ⟨a, dx, ws, rfl, _, hh, _⟩ := q1.insr e1.pre
  refine ⟨a, dx, _, rfl, hh, lookup_none_of hn _, r2 e1.pre (s.mono e1.fsub) hq fun xs us F2 H2 h e2 q2 => ?_⟩
  exact ⟨dc, F2, _ :: (xs ++ dfl), e2.pre, .cons (e2.rep q1) (q2.app (fl _ _)), ms _ _ _ (fun z hz => hz.on pr (e1.trans pr e2)) h⟩
end
/-! ### slots of a statement -/
inductive Sl where
  | emp | val (x : D) | own (x : D)
abbrev SEnv := List Sl
def Sl.seen : Sl → Option D
  | .val x => some x
  | _ => none
def visD (ρ : SEnv) : DEnv := ρ.map Sl.seen
/-- a list, a dict that is the def's own -/
inductive OwnO (dc : Option Addr) (F : Hp) : HO → D → Prop
  | lst {vs : List V} {xs : List D} : Reps dc F xs vs → OwnO dc F (.lst vs) (.lst xs)
  | dK {ks : List Key} {vs : List V} {xs : List D} : ks.length = vs.length → Reps dc F xs vs → OwnO dc F (.dK (ks.zip vs)) (.dK ks xs)
  | dT {ks : List (List Key)} {vs : List V} {xs : List D} : ks.length = vs.length → Reps dc F xs vs → OwnO dc F (.dT (ks.zip vs)) (.dT ks xs)
theorem OwnO.mono {dc : Option Addr} {F F' : Hp} {o : HO} {x : D} (h : ∀ a u, F a = some u → F' a = some u) (r : OwnO dc F o x) : OwnO dc F' o x := by
  cases r with
  | lst r => exact .lst (r.mono h)
  | dK l r => exact .dK l (r.mono h)
  | dT l r => exact .dT l (r.mono h)
theorem OwnO.nt {dc : Option Addr} {F : Hp} {o : HO} {x : D} (r : OwnO dc F o x) : ∀ us, o ≠ .tup us := by
  cases r <;> exact fun us z => nomatch z
theorem OwnO.own {dc : Option Addr} {F : Hp} {o : HO} {x : D} (r : OwnO dc F o x) : Own o := by cases r <;> trivial
theorem OwnO.kp {dc : Option Addr} {F : Hp} {o : HO} {x : D} {y : Option HO} (r : OwnO dc F o x) (h : Kp o y) : y = some o := by cases r <;> exact h
theorem OwnO.sub {dc : Option Addr} {F H : Hp} {o : HO} {x : D} {a : Addr} (r : OwnO dc F o x) (h : H a = some o) : SubO H a o := by
  cases r with
  | lst r => exact h
  | dK l r => exact .inl h
  | dT l r => exact .inl h
theorem OwnO.rep {dc : Option Addr} {F : Hp} {o : HO} {x : D} {a : Addr} (r : OwnO dc F o x) (h : F a = some o) : Rep dc F x (.ref a) := by
  cases r with
  | lst r => exact .lst h r
  | dK l r => exact .dK h l r
  | dT l r => exact .dT h l r
/-- what holds between two statements: F0, H0 the entry -/
structure SInv (dc : Option Addr) (F0 H0 : Hp) (ρ : SEnv) (σ : L2.St) (F H : Hp) : Prop where
  pre0 : Pre dc F0 H0
  ext : Ext dc F0 H0 F H
  len : ρ.length = σ.length
  vals : ∀ (i : Nat) (x : D), ρ[i]? = some (.val x) → ∃ v, σ[i]? = some (some v) ∧ Rep dc F x v
  owns : ∀ (i : Nat) (x : D), ρ[i]? = some (.own x) → ∃ a o, σ[i]? = some (some (.ref a)) ∧ H a = some o ∧ OwnO dc F o x ∧ F a = none ∧ H0 a = none ∧ dc ≠ some a
  apart : ∀ (i j : Nat) (x y : D) (a : Addr), ρ[i]? = some (.own x) → ρ[j]? = some (.own y) → σ[i]? = some (some (.ref a)) → σ[j]? = some (some (.ref a)) → i = j
theorem SInv.slots {dc : Option Addr} {F0 H0 F H : Hp} {ρ : SEnv} {σ : L2.St} (I : SInv dc F0 H0 ρ σ F H) : Slots dc F (visD ρ) σ := by
  refine ⟨by unfold visD; rw [List.length_map]; exact I.len, fun i x e => ?_⟩
  unfold visD at e
  rw [List.getElem?_map] at e
  cases h : ρ[i]? with
  | none => rw [h] at e; cases e
  | some s =>
    rw [h] at e
    cases s with
    | val y => cases e; exact I.vals i _ h
    | emp => cases e
    | own y => cases e
/-- behind an expression -/
theorem SInv.step {dc : Option Addr} {F0 H0 F H F1 H1 : Hp} {ρ : SEnv} {σ : L2.St} (I : SInv dc F0 H0 ρ σ F H) (e : Ext dc F H F1 H1) : SInv dc F0 H0 ρ σ F1 H1 := by
  refine ⟨I.pre0, I.ext.trans I.pre0 e, I.len, fun i x h => let ⟨v, h1, h2⟩ := I.vals i x h; ⟨v, h1, h2.mono e.fsub⟩, fun i x h => ?_, I.apart⟩
  obtain ⟨a, o, h1, h2, h3, h4, h5, h6⟩ := I.owns i x h
  exact ⟨a, o, h1, h3.kp (e.keep a o h6 h2), h3.mono e.fsub, e.out h4 h2 h3.nt, h5, h6⟩
/-- behind an expression of which nothing is kept -/
theorem SInv.past {dc : Option Addr} {F0 H0 F H H1 : Hp} {ρ : SEnv} {σ : L2.St} (I : SInv dc F0 H0 ρ σ F H) (k : ∀ a o, dc ≠ some a → H a = some o → H1 a = some o) (hd : ∀ d, dc = some d → DiceAt H1 d) : SInv dc F0 H0 ρ σ F H1 := by
  have e : Ext dc F H F H1 := by
    have nd : ∀ a o, F a = some o → dc ≠ some a := fun a o h z => by
      rw [(I.ext.pre.dice a z).2] at h
      cases h
    exact ⟨⟨fun a o h => (I.ext.pre.sub a o h).keep fun u q => k a u (nd a o h) q, fun d z => ⟨hd d z, (I.ext.pre.dice d z).2⟩, fun q hq => (I.ext.pre.tabs q hq).on (fun _ _ h _ => h) fun ps z h => k _ _ (nd _ _ z) h⟩, fun a o h q => kp_of (k a o h q), fun _ _ h => h, fun _ _ h => .inl h⟩
  exact I.step e
/-- a slot is set to a value -/
theorem SInv.set {dc : Option Addr} {F0 H0 F H : Hp} {ρ : SEnv} {σ : L2.St} {x : D} {v : V} (I : SInv dc F0 H0 ρ σ F H) (i : Nat) (r : Rep dc F x v) : SInv dc F0 H0 (ρ.set i (.val x)) (σ.set i (some v)) F H := by
  have ne : ∀ {j : Nat} {y : D}, (ρ.set i (.val x))[j]? = some (.own y) → i ≠ j ∧ ρ[j]? = some (.own y) := fun {j y} h => by
    by_cases hj : i = j
    · subst hj
      have hl : i < ρ.length := by
        have := (List.getElem?_eq_some_iff.mp h).1
        rwa [List.length_set] at this
      rw [List.getElem?_set_self hl] at h
      cases h
    · rw [List.getElem?_set_ne hj] at h
      exact ⟨hj, h⟩
  refine ⟨I.pre0, I.ext, by rw [List.length_set, List.length_set]; exact I.len, fun j y h => ?_, fun j y h => ?_, fun j k y z a h1 h2 h3 h4 => ?_⟩
  · by_cases hj : i = j
    · subst hj
      have hl : i < ρ.length := by
        have := (List.getElem?_eq_some_iff.mp h).1
        rwa [List.length_set] at this
      rw [List.getElem?_set_self hl] at h
      cases h
      exact ⟨v, List.getElem?_set_self (by rw [← I.len]; exact hl), r⟩
    · rw [List.getElem?_set_ne hj] at h ⊢
      exact I.vals j y h
  · obtain ⟨hj, h⟩ := ne h
    rw [List.getElem?_set_ne hj]
    exact I.owns j y h
  · obtain ⟨hj, h1⟩ := ne h1
    obtain ⟨hk, h2⟩ := ne h2
    rw [List.getElem?_set_ne hj] at h3
    rw [List.getElem?_set_ne hk] at h4
    exact I.apart j k y z a h1 h2 h3 h4
def setAllS (ρ : SEnv) : List Nat → List D → SEnv
  | i :: is, v :: vs => setAllS (ρ.set i (.val v)) is vs
  | _, _ => ρ
theorem SInv.setAll {dc : Option Addr} {F0 H0 F H : Hp} : ∀ (is : List Nat) {ρ : SEnv} {σ : L2.St} {xs : List D} {vs : List V}, SInv dc F0 H0 ρ σ F H → Reps dc F xs vs → SInv dc F0 H0 (setAllS ρ is xs) (setAll σ is vs) F H
  | [], _, _, _, _, s, _ => s
  | _ :: _, _, _, _, _, s, .nil => s
  | i :: is, _, _, _, _, s, .cons r t => by
    unfold setAllS KP.setAll
    exact SInv.setAll is (s.set i r) t
/-! ### statements -/
structure DEnds where
  nx : SEnv → Prop
  rt : D → Prop
  bk : SEnv → Prop := fun _ => False
  ct : SEnv → Prop := fun _ => False
structure DEnds.Le (E E' : DEnds) : Prop where
  nx : ∀ ρ, E.nx ρ → E'.nx ρ
  rt : ∀ ρ, E.rt ρ → E'.rt ρ
  bk : ∀ ρ, E.bk ρ → E'.bk ρ
  ct : ∀ ρ, E.ct ρ → E'.ct ρ
theorem DEnds.Le.refl (E : DEnds) : E.Le E := ⟨fun _ h => h, fun _ h => h, fun _ h => h, fun _ h => h⟩
abbrev DTS := DEnds → SEnv → Prop
structure Link (dc : Option Addr) (F0 H0 : Hp) (E : DEnds) (D' : Ends) : Prop where
  nx : ∀ ρ σ F H, SInv dc F0 H0 ρ σ F H → E.nx ρ → D'.nx σ H
  rt : ∀ x v F H, Ext dc F0 H0 F H → Rep dc F x v → E.rt x → D'.rt v H
  bk : ∀ ρ σ F H, SInv dc F0 H0 ρ σ F H → E.bk ρ → D'.bk σ H
  ct : ∀ ρ σ F H, SInv dc F0 H0 ρ σ F H → E.ct ρ → D'.ct σ H
def rdS (dc : Option Addr) (s : DTS) (t : TS) : Prop := ∀ F0 H0 ρ σ F H (E : DEnds) (D' : Ends), SInv dc F0 H0 ρ σ F H → Link dc F0 H0 E D' → s E ρ → t D' σ H
structure DS (X : Cx) (dc : Option Addr) (st : Stmt) (s : DTS) : Prop where
  mono : ∀ E E' ρ, E.Le E' → s E ρ → s E' ρ
  run : ∃ t, PS X st t ∧ rdS dc s t
structure DSs (X : Cx) (dc : Option Addr) (st : List Stmt) (s : DTS) : Prop where
  mono : ∀ E E' ρ, E.Le E' → s E ρ → s E' ρ
  run : ∃ t, PSs X st t ∧ rdS dc s t
section
variable {X : Cx} {dc : Option Addr} {st : Stmt} {rest : List Stmt} {s u : DTS} {e : Expr} {d : DT} {pos : Pos}
def sSeq (s u : DTS) : DTS := fun E ρ => s { E with nx := u E } ρ
theorem dss_nil : DSs X dc [] (fun E ρ => E.nx ρ) := ⟨fun E E' ρ l h => l.nx ρ h, _, pss_nil, fun F0 H0 ρ σ F H E D' I L h => L.nx _ _ _ _ I h⟩
theorem dss_one (h : DS X dc st s) : DSs X dc [st] s := ⟨h.mono, let ⟨t, p, r⟩ := h.run; ⟨t, pss_one p, r⟩⟩
theorem dss_cons (h1 : DS X dc st s) (h2 : DSs X dc rest u) : DSs X dc (st :: rest) (sSeq s u) := by
  obtain ⟨m1, t1, p1, r1⟩ := h1
  obtain ⟨m2, t2, p2, r2⟩ := h2
  refine ⟨fun E E' ρ l h => m1 { E with nx := u E } { E' with nx := u E' } _ ⟨fun ρ h => m2 _ _ _ l h, l.rt, l.bk, l.ct⟩ h, _, pss_cons p1 p2, fun F0 H0 ρ σ F H E D' I L h => ?_⟩
  exact r1 F0 H0 ρ σ F H { E with nx := u E } _ I ⟨fun ρ' σ' F' H' I' h' => r2 F0 H0 ρ' σ' F' H' E D' I' L h', L.rt, L.bk, L.ct⟩ h
def sSet (i : Nat) (d : DT) : DTS := fun E ρ => d (visD ρ) fun x => E.nx (ρ.set i (.val x))
theorem ds_set {i : Nat} {x : Str} {pos' : Pos} (hN : X.N.Nodup) (hi : X.N[i]? = some x) (hx : Loc X.env.scope x) (he : DE X dc e d) (hs : swapsWith e (some (.Name x pos')) pos.line X.env = pure false := by rfl)
    (hf : X.fn x = true ∨ X.env.scope.names.lookup x = some .local := by first | exact .inl rfl | exact .inr rfl | assumption) : DS X dc (.Assign [.Name x pos'] e pos) (sSet i d) := by
  have m := he.mono
  obtain ⟨t, p, r⟩ := he.get
  refine ⟨fun E E' ρ l h => m _ _ _ (fun x h => l.nx _ h) h, _, ps_set hN hi hx p hs hf, fun F0 H0 ρ σ F H E D' I L h => ?_⟩
  exact r I.ext.pre I.slots h fun x v F1 H1 h e1 r1 => L.nx _ _ _ _ ((I.step e1).set i r1) h
def sRet (d : DT) : DTS := fun E ρ => d (visD ρ) E.rt
theorem ds_ret (he : DE X dc e d) : DS X dc (.Return (some e) pos) (sRet d) := by
  have m := he.mono
  obtain ⟨t, p, r⟩ := he.get
  refine ⟨fun E E' ρ l h => m _ _ _ l.rt h, _, ps_ret p, fun F0 H0 ρ σ F H E D' I L h => ?_⟩
  exact r I.ext.pre I.slots h fun x v F1 H1 h e1 r1 => L.rt _ _ _ _ (I.ext.trans I.pre0 e1) r1 h
def sExpr (d : DT) : DTS := fun E ρ => d (visD ρ) fun _ => E.nx ρ
theorem ds_expr (he : DE X dc e d) (hs : swapsWith e none pos.line X.env = pure false := by rfl) : DS X dc (.Expr e pos) (sExpr d) := by
  have m := he.mono
  obtain ⟨t, p, r⟩ := he.get
  refine ⟨fun E E' ρ l h => m _ _ _ (fun _ h => l.nx _ h) h, _, ps_expr p hs, fun F0 H0 ρ σ F H E D' I L h => ?_⟩
  exact r I.ext.pre I.slots h fun x v F1 H1 h e1 r1 => L.nx _ _ _ _ (I.step e1) h
def sIf (c : DTB) (s u : DTS) : DTS := fun E ρ => c (visD ρ) fun b => if b = true then s E ρ else u E ρ
theorem ds_if {c : Expr} {dcn : DTB} {p q : List Stmt} (hc : DC X dc c dcn) (h1 : DSs X dc p s) (h2 : DSs X dc q u) : DS X dc (.If c p q pos) (sIf dcn s u) := by
  have m := hc.mono
  obtain ⟨t0, p0, r0⟩ := hc.get
  obtain ⟨m1, t1, p1, r1⟩ := h1
  obtain ⟨m2, t2, p2, r2⟩ := h2
  refine ⟨fun E E' ρ l h => m _ _ _ (fun b h => ?_) h, _, ps_if p0 p1 p2, fun F0 H0 ρ σ F H E D' I L h => r0 I.ext.pre I.slots h fun b F1 H1 h e1 => ?_⟩
  · cases b with
    | true => exact iteT (m1 _ _ _ l (by simpa using h))
    | false => exact iteF (m2 _ _ _ l (by simpa using h))
  · cases b with
    | true =>
      have h' : s E ρ := by simpa using h
      exact iteT (r1 _ _ _ _ _ _ _ _ (I.step e1) L h')
    | false =>
      have h' : u E ρ := by simpa using h
      exact iteF (r2 _ _ _ _ _ _ _ _ (I.step e1) L h')
theorem ds_never : DS X dc st (fun _ _ => False) := ⟨fun _ _ _ _ h => h, _, ps_never, fun _ _ _ _ _ _ _ _ _ _ h => h⟩
/-- a target of any form -/
def sAsg (d : DT) (is : List Nat) (g : DTG) : DTS := fun E ρ => d (visD ρ) fun x => g x fun xs => E.nx (setAllS ρ is xs)
end
/-! ### a, b = e1, e2; loops; a def by its body -/
section
variable {X : Cx} {dc : Option Addr} {e : Expr} {pos : Pos}
def pr2 (xs : List D) (Q : D → D → Prop) : Prop := match xs with | [x, y] => Q x y | _ => False
theorem pr2.inv {xs : List D} {Q : D → D → Prop} (h : pr2 xs Q) : ∃ x y, xs = [x, y] ∧ Q x y := by
  unfold pr2 at h
  split at h
  · exact ⟨_, _, rfl, h⟩
  · exact False.elim h
theorem pr2.mono {xs : List D} {P Q : D → D → Prop} (h : ∀ x y, P x y → Q x y) (p : pr2 xs P) : pr2 xs Q := by
  obtain ⟨x, y, rfl, q⟩ := p.inv
  exact h _ _ q
def sPar2 (i j : Nat) (d : DTA) : DTS := fun E ρ => d (visD ρ) fun xs => pr2 xs fun x y => E.nx ((ρ.set i (.val x)).set j (.val y))
theorem ds_par {i j : Nat} {x y : Str} {a b : Expr} {d : DTA} {px py pt : Pos} {kt k2 pt2} (hc : X.calm = true) (hN : X.N.Nodup) (hi : X.N[i]? = some x) (hj : X.N[j]? = some y) (hij : i ≠ j)
    (hx : X.env.scope.names.lookup x = some .local) (hy : X.env.scope.names.lookup y = some .local) (ha : DA X dc [a, b] d)
    (hw : swappedStores [.Tuple [.Name x px, .Name y py] kt pt] (.Tuple [a, b] k2 pt2) X.env = pure (some [x, y]))
    (hs : swapsWithSole [.Tuple [.Name x px, .Name y py] kt pt] (.Tuple [a, b] k2 pt2) pos.line X.env = pure false := by rfl) :
    DS X dc (.Assign [.Tuple [.Name x px, .Name y py] kt pt] (.Tuple [a, b] k2 pt2) pos) (sPar2 i j d) := by
  have m := ha.mono
  obtain ⟨t, p, r⟩ := ha.get
  refine ⟨fun E E' ρ l h => m _ _ _ (fun xs h => pr2.mono (fun x y h => l.nx _ h) h) h, _, ps_par hc hN hi hj hij hx hy p hw hs, fun F0 H0 ρ σ F H E D' I L h => ?_⟩
  refine r I.ext.pre I.slots h fun xs vs F1 H1 h e1 r1 => ?_
  obtain ⟨x, y, rfl, h⟩ := h.inv
  cases r1 with
  | cons q1 q2 =>
    cases q2 with
    | cons q2 q3 =>
      cases q3
      exact ⟨_, _, rfl, L.nx _ _ _ _ (((I.step e1).set i q1).set j q2) h⟩
/-- the base of a loop: what of H is not the def's own -/
def cutH (dc : Option Addr) (F1 H0 H1 : Hp) : Hp := fun a => if (F1 a).isSome = true ∨ (H0 a).isSome = true ∨ dc = some a then H1 a else none
theorem cutH_in {F1 H0 H1 : Hp} {a : Addr} {o : HO} (h : cutH dc F1 H0 H1 a = some o) : H1 a = some o ∧ ((F1 a).isSome = true ∨ (H0 a).isSome = true ∨ dc = some a) := by
  unfold cutH at h
  by_cases c : (F1 a).isSome = true ∨ (H0 a).isSome = true ∨ dc = some a
  · rw [if_pos c] at h
    exact ⟨h, c⟩
  · rw [if_neg c] at h
    cases h
theorem cutH_of {F1 H0 H1 : Hp} {a : Addr} (c : (F1 a).isSome = true ∨ (H0 a).isSome = true ∨ dc = some a) : cutH dc F1 H0 H1 a = H1 a := if_pos c
theorem SInv.rebase {F0 H0 F1 H1 : Hp} {ρ : SEnv} {σ : L2.St} (I : SInv dc F0 H0 ρ σ F1 H1) : SInv dc F1 (cutH dc F1 H0 H1) ρ σ F1 H1 := by
  have pr : Pre dc F1 (cutH dc F1 H0 H1) := ⟨fun a o h => (I.ext.pre.sub a o h).keep fun u q => by rw [cutH_of (.inl (by rw [h]; rfl))]; exact q, fun d z => by
    obtain ⟨⟨x, y, w, h⟩, n⟩ := I.ext.pre.dice d z
    exact ⟨⟨x, y, w, by rw [cutH_of (.inr (.inr z))]; exact h⟩, n⟩, fun q hq => (I.ext.pre.tabs q hq).on (fun _ _ h _ => h) fun ps z h => by rw [cutH_of (.inl (by rw [z]; rfl))]; exact h⟩
  refine ⟨pr, ⟨I.ext.pre, fun a o _ h => kp_of (cutH_in h).1, fun _ _ h => h, fun _ _ h => .inl h⟩, I.len, I.vals, fun i x h => ?_, I.apart⟩
  obtain ⟨a, o, h1, h2, h3, h4, h5, h6⟩ := I.owns i x h
  refine ⟨a, o, h1, h2, h3, h4, ?_, h6⟩
  unfold cutH
  rw [if_neg]
  rintro (z | z | z)
  · rw [h4] at z; cases z
  · rw [h5] at z; cases z
  · exact h6 z
theorem Ext.back {F0 H0 F1 H1 F H : Hp} (p0 : Pre dc F0 H0) (a : Ext dc F0 H0 F1 H1) (b : Ext dc F1 (cutH dc F1 H0 H1) F H) : Ext dc F0 H0 F H := by
  refine ⟨b.pre, fun c o hc h => ?_, fun c o h => b.fsub c o (a.fsub c o h), fun c o h => ?_⟩
  · refine (a.keep c o hc h).on fun u q => b.keep c u hc ?_
    rw [cutH_of (.inr (.inl (by rw [h]; rfl)))]
    exact q
  · have key : (∀ xs, H1 c = some (.tup xs) → H0 c = none ∨ ∃ xs, H0 c = some (.tup xs)) := fun xs q => by
      cases z : H0 c with
      | none => exact .inl rfl
      | some u =>
        by_cases hd : dc = some c
        · obtain ⟨⟨x, y, w, hw⟩, _⟩ := a.pre.dice c hd
          rw [q] at hw
          cases hw
        · cases (a.keep c u hd z).eq q fun ps z => nomatch z
          exact .inr ⟨xs, rfl⟩
    rcases b.fnew c o h with z | z | ⟨xs, z⟩
    · exact a.fnew c o z
    · cases q : H0 c with
      | none => exact .inr (.inl rfl)
      | some u =>
        rw [cutH_of (.inr (.inl (by rw [q]; rfl)))] at z
        by_cases hd : dc = some c
        · obtain ⟨⟨x, y, w, hw⟩, _⟩ := a.pre.dice c hd
          rw [z] at hw
          cases hw
        · exact ((a.keep c u hd q).ne z).elim
    · exact .inr (key xs (cutH_in z).1)
theorem SInv.back {F0 H0 F1 H1 F H : Hp} {ρ ρ1 : SEnv} {σ σ1 : L2.St} (I : SInv dc F0 H0 ρ1 σ1 F1 H1) (J : SInv dc F1 (cutH dc F1 H0 H1) ρ σ F H) : SInv dc F0 H0 ρ σ F H := by
  refine ⟨I.pre0, I.ext.back I.pre0 J.ext, J.len, J.vals, fun i x h => ?_, J.apart⟩
  obtain ⟨a, o, h1, h2, h3, h4, h5, h6⟩ := J.owns i x h
  refine ⟨a, o, h1, h2, h3, h4, ?_, h6⟩
  cases q : H0 a with
  | none => rfl
  | some u =>
    rw [cutH_of (.inr (.inl (by rw [q]; rfl)))] at h5
    exact ((I.ext.keep a u h6 q).ne h5).elim
def dFor (is : List Nat) (g : DTG) (body : DTS) (E : DEnds) : List D → SEnv → Prop
  | [], ρ => E.nx ρ
  | x :: xs, ρ => g x fun ys => body { nx := dFor is g body E xs, rt := E.rt, bk := E.nx, ct := dFor is g body E xs } (setAllS ρ is ys)
def sFor (w : DTI) (is : List Nat) (g : DTG) (body : DTS) : DTS := fun E ρ => w (visD ρ) fun xs => dFor is g body E xs ρ
theorem dFor_mono {is : List Nat} {g : DTG} {body : DTS} {E E' : DEnds} (mg : ∀ x P P', (∀ xs, P xs → P' xs) → g x P → g x P') (mb : ∀ E E' ρ, E.Le E' → body E ρ → body E' ρ) (l : E.Le E') : ∀ xs ρ, dFor is g body E xs ρ → dFor is g body E' xs ρ
  | [], ρ, h => l.nx ρ h
  | x :: xs, ρ, h => mg _ _ _ (fun ys h => mb { nx := dFor is g body E xs, rt := E.rt, bk := E.nx, ct := dFor is g body E xs } { nx := dFor is g body E' xs, rt := E'.rt, bk := E'.nx, ct := dFor is g body E' xs } _ ⟨fun ρ h => dFor_mono mg mb l xs ρ h, l.rt, l.nx, fun ρ h => dFor_mono mg mb l xs ρ h⟩ h) h
theorem ds_for {tg iter : Expr} {body : List Stmt} {is : List Nat} {w : DTI} {g : DTG} {s : DTS} (hp : PassesOwn (model X.prog X.w) X.A X.env X.xe) (hc : X.calm = true) (hi : DI X dc tg iter w) (hg : DG X dc tg is g) (hb : DSs X dc body s)
    (hs : ∀ x, foldedSetIterable iter X.env x = pure x := by intro _; rfl) : DS X dc (.For tg iter body [] pos) (sFor w is g s) := by
  obtain ⟨mb, tb, pb, rb⟩ := hb
  have mg := hg.mono
  refine ⟨fun E E' ρ l h => hi.mono _ _ _ (fun xs h => dFor_mono mg mb l xs ρ h) h, _, ps_for hp hc hi.run hg.run pb hs, fun F0 H0 ρ σ F H E D' I L h => ?_⟩
  refine ⟨visD ρ, F, I.ext.pre, I.slots, hi.mono _ _ _ (fun xs hx J F1 H1 e1 it => ?_) h⟩
  have I1 := I.step e1
  have kF : ∀ {F' H' : Hp}, Ext dc F1 (cutH dc F1 H0 H1) F' H' → ∀ a o, F1 a ≠ none → H1 a = some o → Kp o (H' a) := fun {F' H'} e' a o hF h => by
    have hs : (F1 a).isSome = true := by cases q : F1 a with | none => exact absurd q hF | some _ => rfl
    exact e'.keep a o (fun z => hF (I1.ext.pre.dice a z).2) (by rw [cutH_of (.inl hs)]; exact h)
  refine for_it (n := xs.length) (G := fun H' => ∀ a o, F1 a ≠ none → H1 a = some o → Kp o (H' a)) (Y := fun i H' v H'' => ∀ F', Pre dc F' H' → (∀ a o, F1 a = some o → F' a = some o) → ∃ x F'', xs[i]? = some x ∧ Ext dc F' H' F'' H'' ∧ Rep dc F'' x v)
    ⟨fun i H' hi k => it.goes i H' hi k, fun H' k => it.stops H' k, fun i H' v H'' hi k y F' pr fs => it.yields i F' H' v H'' hi pr fs k y⟩
    (fun i σ' H' => ∃ ρ' F', SInv dc F1 (cutH dc F1 H0 H1) ρ' σ' F' H' ∧ dFor is g s E (xs.drop i) ρ') ⟨ρ, F1, I1.rebase, by rw [List.drop_zero]; exact hx⟩
    (fun i σ' H' _ ⟨ρ', F', J', _⟩ => kF J'.ext) (fun i v σ' H' H'' hi ⟨ρ', F', J', hd⟩ y => ?_) (fun σ' H' ⟨ρ', F', J', hd⟩ => ?_)
  · obtain ⟨x, F2, hxi, e2, rx⟩ := y F' J'.ext.pre J'.ext.fsub
    have hxe : x = xs[i] := by rw [List.getElem?_eq_getElem hi] at hxi; exact (Option.some.inj hxi).symm
    rw [List.drop_eq_getElem_cons hi, ← hxe] at hd
    refine ⟨F2, x, e2.pre, rx, mg _ _ _ (fun ys hy ws rw' => ?_) hd⟩
    refine rb F1 _ _ _ F2 H'' _ _ ((J'.step e2).setAll is rw') ⟨fun ρ2 σ2 F3 H3 J3 h3 => ⟨ρ2, F3, J3, h3⟩, fun z v F3 H3 e3 r3 h3 => ?_, fun ρ2 σ2 F3 H3 J3 h3 => ?_, fun ρ2 σ2 F3 H3 J3 h3 => ⟨ρ2, F3, J3, h3⟩⟩ hy
    · exact L.rt _ _ _ _ (I1.ext.back I.pre0 e3) r3 h3
    · exact L.nx _ _ _ _ (I1.back J3) h3
  · rw [List.drop_length] at hd
    exact L.nx _ _ _ _ (I1.back J') hd
end
/-! a def -/
def startS (N : List Str) (xs : List D) : SEnv := xs.map Sl.val ++ List.replicate (N.length - xs.length) Sl.emp
theorem SInv.start {dc : Option Addr} {F H : Hp} {N : List Str} {xs : List D} {vs : List V} (p : Pre dc F H) (r : Reps dc F xs vs) : SInv dc F H (startS N xs) (L2.start N vs) F H := by
  have nov : ∀ {i : Nat} {x : D}, (startS N xs)[i]? = some (.own x) → False := fun {i x} h => by
    unfold startS at h
    rcases List.mem_append.mp (List.mem_of_getElem? h) with z | z
    · obtain ⟨y, _, e⟩ := List.mem_map.mp z
      cases e
    · cases (List.mem_replicate.mp z).2
  refine ⟨p, .refl p, ?_, fun i x h => ?_, fun i x h => (nov h).elim, fun i j x y a h => (nov h).elim⟩
  · unfold startS L2.start
    rw [List.length_append, List.length_append, List.length_map, List.length_map, List.length_replicate, List.length_replicate, r.length]
  · unfold startS at h
    by_cases hi : i < xs.length
    · rw [List.getElem?_append_left (by rw [List.length_map]; exact hi), List.getElem?_map] at h
      cases q : xs[i]? with
      | none => rw [q] at h; cases h
      | some y =>
        rw [q] at h
        cases h
        obtain ⟨v, hv, rv⟩ := r.get q
        refine ⟨v, ?_, rv⟩
        unfold L2.start
        rw [List.getElem?_append_left (by rw [List.length_map, ← r.length]; exact hi), List.getElem?_map, hv]
        rfl
    · rw [List.getElem?_append_right (by rw [List.length_map]; omega)] at h
      have := List.mem_of_getElem? h
      cases (List.mem_replicate.mp this).2
def retE (Q : D → Prop) : DEnds := { nx := fun _ => Q .non, rt := Q }
section
variable {P : Program} {w : World} {K : PySem.W.Frag} {mg : Str → Option Value} {base : Heap}
theorem fnD_ok {x qual : Str} {st : Stmt} {f : Addr} {fd : FuncData} {N ps : List Str} {k : Nat} {sp : DSp} {s : DTS} (F : Fun K x qual st f fd) (S : FnScope N ps (defScope st)) (len : ∀ xs Q, sp xs Q → xs.length = ps.length)
    (body : ∀ (dc : Option Addr) (cdv : Value) (A : Around) (outer : List Env) (s0 : Shared) (H : Hp) (E : XK), Room k (A.deeper (envOfC qual (defScope st) s0.heap.objs.size f cdv)) →
      DSs (cxOf CX0 P w K mg base N qual (defScope st) f cdv A outer s0 H E).nox dc (defBody st) s) (h : ∀ xs Q, sp xs Q → s (retE Q) (startS N xs)) : FnOk P w K mg base CX0 (k + 1) f fd ps (spD sp) := by
  refine F.ok S (fun vs H Q E ⟨dc, F, xs, p, r, q⟩ => by rw [← r.length]; exact len _ _ q) (fun cdv A outer s0 H vs Q E hr hq => ?_)
  obtain ⟨dc, F1, xs, p, r, q⟩ := hq
  obtain ⟨_, t, pt, rt⟩ := body dc cdv A outer s0 H E hr
  refine ⟨t, pt, rt F1 H _ _ F1 H (retE (KV' dc F1 H Q)) _ (SInv.start p r) ⟨fun ρ σ F' H' I hn => hn _ _ _ I.ext .non, fun y v F' H' e ry hy => hy _ _ _ e ry, fun _ _ _ _ _ hn => hn.elim, fun _ _ _ _ _ hn => hn.elim⟩ (h xs _ q)⟩
end
/-! ### slices, zip, two clauses -/
structure DO (X : Cx) (dc : Option Addr) (e : Option Expr) (d : DEnv → (Option Int → Prop) → Prop) : Prop where
  mono : ∀ ρ P P', (∀ x, P x → P' x) → d ρ P → d ρ P'
  run : ∃ t, PO X e t ∧ ∀ ρ σ F H Q, Pre dc F H → Slots dc F ρ σ → d ρ (fun o => ∀ F' H', Ext dc F H F' H' → Q o H') → t σ H Q
def cutD (xs : List D) (lo hi : Option Int) : List D := (xs.drop (HT.sIx xs.length 0 lo)).take (HT.sIx xs.length xs.length hi - HT.sIx xs.length 0 lo)
theorem Reps.cut {dc : Option Addr} {F : Hp} {xs : List D} {vs : List V} (r : Reps dc F xs vs) (lo hi : Option Int) : Reps dc F (cutD xs lo hi) (cutV vs lo hi) := by
  unfold cutD cutV
  rw [r.length]
  exact (r.drop _).take _
theorem cutD_whole {xs : List D} {lo hi : Option Int} (h : HT.sIx xs.length 0 lo = 0 ∧ HT.sIx xs.length xs.length hi = xs.length) : cutD xs lo hi = xs := by
  unfold cutD
  rw [h.1, h.2, List.drop_zero, Nat.sub_zero, List.take_length]
section
variable {X : Cx} {dc : Option Addr}
theorem do_none : DO X dc none (fun _ Q => Q none) := ⟨fun _ _ _ h => h _, _, po_none, fun ρ σ F H Q p s h => h _ _ (.refl p)⟩
theorem do_some {e : Expr} {d : DT} (h : DE X dc e d) : DO X dc (some e) (fun ρ Q => d ρ fun x => asInt x fun i => Q (some i)) := by
  have m := h.mono
  obtain ⟨t, p, r⟩ := h.get
  refine ⟨fun ρ P P' hP h => m _ _ _ (fun x h => asInt.mono (fun i h => hP _ h) h) h, _, po_some p, fun ρ σ F H Q pr s h => r pr s h fun x v F1 H1 h e1 r1 => ?_⟩
  obtain ⟨i, rfl, h1⟩ := h.inv
  cases r1
  exact ⟨i, rfl, h1 _ _ e1⟩
theorem de_slice {e : Expr} {lo hi : Option Expr} {p2 pos : Pos} {d : DT} {dl dh : DEnv → (Option Int → Prop) → Prop} (he : DE X dc e d) (hl : DO X dc lo dl) (hh : DO X dc hi dh) :
    DE X dc (.Subscript e (.Slice lo hi none p2) pos) (fun ρ Q => d ρ fun x => dl ρ fun l => dh ρ fun u => match x with | .lst xs => Q (.lst (cutD xs l u)) | .tup xs => Q (.tup (cutD xs l u)) | _ => False) := by
  have m := he.mono
  obtain ⟨t, p, r⟩ := he.get
  obtain ⟨ml, tl, pl, rl⟩ := hl
  obtain ⟨mh, th, ph, rh⟩ := hh
  refine ⟨fun ρ P P' hP h => m _ _ _ (fun x h => ml _ _ _ (fun l h => mh _ _ _ (fun u h => ?_) h) h) h, _, pe_slice (SlR.or sl_list sl_tupA) p pl ph, fun ρ σ F H Q pr s h => r pr s h fun x v F1 H1 h e1 r1 => ?_⟩
  · split at h <;> first | exact hP _ h | exact False.elim h
  · refine rl _ _ _ _ _ e1.pre (s.mono e1.fsub) (ml _ _ _ (fun l h F2 H2 e2 => rh _ _ _ _ _ e2.pre ((s.mono e1.fsub).mono e2.fsub) (mh _ _ _ (fun u h F3 H3 e3 => ?_) h)) h)
    have e13 := (e1.trans pr e2).trans pr e3
    have r3 := e3.rep (e2.rep r1)
    split at h
    · obtain ⟨a, vs, rfl, ha, rv⟩ := r3.seqL (K := X.K) e3.pre
      refine .inl ⟨a, vs, rfl, .of ha, fun q nq => ?_⟩
      obtain ⟨e4, r4⟩ := Ext.lst e3.pre nq (rv.cut l u)
      exact h _ _ _ (e13.trans pr e4) r4
    · rename_i xs
      cases r3 with
      | @tup a _ vs ea rv =>
        refine .inr ⟨a, vs, rfl, .of (e3.pre.sub _ _ ea), fun w => ?_, fun w q nq => ?_⟩
        · rw [← rv.length] at w
          refine h _ _ _ e13 ?_
          rw [cutD_whole w]
          exact .tup ea rv
        · obtain ⟨e4, r4⟩ := Ext.tup e3.pre nq (rv.cut l u)
          exact h _ _ _ (e13.trans pr e4) r4
    · exact False.elim h
end
/-! zip of two lists or two tuples -/
def zipD (a b : List D) : List D := (a.zip b).map fun p => .tup [p.1, p.2]
def onZip (x y : D) (Q : List D → Prop) : Prop := match x, y with
  | .lst a, .lst b => Q (zipD a b)
  | .tup a, .tup b => Q (zipD a b)
  | _, _ => False
def iZipD (d : DTA) : DTI := fun ρ Q => d ρ fun xs => pr2 xs fun x y => onZip x y Q
theorem Ext.tup2 {dc : Option Addr} {F H : Hp} {a : Addr} {x y : D} {v u : V} (p : Pre dc F H) (n : H a = none) (rx : Rep dc F x v) (ry : Rep dc F y u) : Ext dc F H (upd F a (.tup [v, u])) (upd H a (.tup [v, u])) ∧ Rep dc (upd F a (.tup [v, u])) (.tup [x, y]) (.ref a) :=
  Ext.tup p n (.cons rx (.cons ry .nil))
section
variable {X : Cx} {dc : Option Addr}
theorem zipD_len (a b : List D) : (zipD a b).length = min a.length b.length := by unfold zipD; rw [List.length_map, List.length_zip]
theorem zipD_get {a b : List D} {i : Nat} {x y : D} (h : a[i]? = some x) (g : b[i]? = some y) : (zipD a b)[i]? = some (.tup [x, y]) := by
  unfold zipD
  rw [List.getElem?_map, (List.getElem?_zip_eq_some (z := (x, y))).mpr ⟨h, g⟩]
  rfl
theorem di_zip {e e2 : Expr} {d : DTA} {p pos tpos : Pos} {elts : List Expr} {kk : Nat} (hg : Gl X "zip") (hm : X.mg "zip" = none) (ha : DA X dc [e, e2] d)
    (hs : starEach [e, e2] X.env = (false, eval e X.env) :: starEach [e2] X.env := by rfl) (hpl : (backTo pos (starEach [e2] X.env)).any (·.1) = false := by rfl) :
    DI X dc (.Tuple elts kk tpos) (.Call (.Name "zip" p) [e, e2] [] pos) (iZipD d) := by
  have m := ha.mono
  obtain ⟨t, pt, rt⟩ := ha.get
  refine DI.mk' (fun ρ P P' hP q => m _ _ _ (fun xs q => pr2.mono (fun x y q => ?_) q) q) (RZ.pi_zipA hg hm pt hs hpl) fun ρ σ F H R p s q => rt p s q fun xs vs F1 H1 h e1 r1 => ?_
  · unfold onZip at q ⊢
    split at q <;> first | exact hP _ q | exact False.elim q
  · have hh := h.inv
    clear h
    obtain ⟨x, y, rfl, h⟩ := hh
    cases r1 with
    | cons q1 q2 =>
    cases q2 with
    | cons q2 q3 =>
    cases q3
    unfold onZip at h
    split at h
    · rename_i as bs
      cases q1 with
      | @lst a _ vs ea ra =>
      cases q2 with
      | @lst b _ us eb rb =>
      have ha := e1.pre.sub _ _ ea
      have hb := e1.pre.sub _ _ eb
      have na : F1 a ≠ none := by rw [ea]; exact fun z => nomatch z
      have nb : F1 b ≠ none := by rw [eb]; exact fun z => nomatch z
      refine ⟨a, b, vs, us, rfl, .inl ⟨.of ha, .of hb, h _ _ _ e1 ⟨fun i H' hi k => ?_, fun H' k => ?_, fun i F' H' v H'' hi pr fs k yy => ?_⟩⟩⟩
      · rw [zipD_len] at hi
        obtain ⟨v, hv, _⟩ := ra.get (List.getElem?_eq_getElem (show i < as.length by omega))
        obtain ⟨u, hu, _⟩ := rb.get (List.getElem?_eq_getElem (show i < bs.length by omega))
        exact ⟨vs, us, v, u, .of (k _ _ na ha), .of (k _ _ nb hb), hv, hu⟩
      · rw [zipD_len, ra.length, rb.length]
        exact ⟨vs, us, .of (k _ _ na ha), .of (k _ _ nb hb), by omega⟩
      · obtain ⟨T, v1, v2, rfl, nT, rfl, h1, h2⟩ := yy
        obtain ⟨x1, hx1, rx1⟩ := ra.get' (h1 _ (.of (k _ _ na ha)))
        obtain ⟨x2, hx2, rx2⟩ := rb.get' (h2 _ (.of (k _ _ nb hb)))
        obtain ⟨e2, r2⟩ := Ext.tup2 pr nT (rx1.mono fs) (rx2.mono fs)
        exact ⟨_, _, zipD_get hx1 hx2, e2, r2⟩
    · rename_i as bs
      cases q1 with
      | @tup a _ vs ea ra =>
      cases q2 with
      | @tup b _ us eb rb =>
      have ha := e1.pre.sub _ _ ea
      have hb := e1.pre.sub _ _ eb
      have na : F1 a ≠ none := by rw [ea]; exact fun z => nomatch z
      have nb : F1 b ≠ none := by rw [eb]; exact fun z => nomatch z
      refine ⟨a, b, vs, us, rfl, .inr ⟨.of ha, .of hb, h _ _ _ e1 ⟨fun i H' hi k => ?_, fun H' k => ?_, fun i F' H' v H'' hi pr fs k yy => ?_⟩⟩⟩
      · rw [zipD_len] at hi
        obtain ⟨v, hv, _⟩ := ra.get (List.getElem?_eq_getElem (show i < as.length by omega))
        obtain ⟨u, hu, _⟩ := rb.get (List.getElem?_eq_getElem (show i < bs.length by omega))
        exact ⟨vs, us, v, u, .of (k _ _ na ha), .of (k _ _ nb hb), hv, hu⟩
      · rw [zipD_len, ra.length, rb.length]
        exact ⟨vs, us, .of (k _ _ na ha), .of (k _ _ nb hb), by omega⟩
      · obtain ⟨T, v1, v2, rfl, nT, rfl, h1, h2⟩ := yy
        obtain ⟨x1, hx1, rx1⟩ := ra.get' (h1 _ (.of (k _ _ na ha)))
        obtain ⟨x2, hx2, rx2⟩ := rb.get' (h2 _ (.of (k _ _ nb hb)))
        obtain ⟨e2, r2⟩ := Ext.tup2 pr nT (rx1.mono fs) (rx2.mono fs)
        exact ⟨_, _, zipD_get hx1 hx2, e2, r2⟩
    · exact False.elim h
end
/-! two clauses: at most 1000 turns each -/
def lcF2 (is : List Nat) (g : DTG) (dt : DTB) (w1 : DTI) (is1 : List Nat) (g1 : DTG) (dt1 : DTB) (de : DT) (vs vs1 : List Nat) (ρ : DEnv) : D → (List D → Prop) → Prop := fun x K => g x fun ys => dt (setAllD (wipeD ρ vs) is ys) fun b =>
  if b = true then w1 (setAllD (wipeD ρ vs) is ys) fun xs1 => xs1.length ≤ 1000 ∧ lcL (lcF is1 g1 dt1 de vs1 (setAllD (wipeD ρ vs) is ys)) xs1 K else K []
def dLc2 (w : DTI) (is : List Nat) (g : DTG) (dt : DTB) (w1 : DTI) (is1 : List Nat) (g1 : DTG) (dt1 : DTB) (de : DT) (vs vs1 : List Nat) : DT := fun ρ Q => w ρ fun xs => xs.length ≤ 1000 ∧ lcL (lcF2 is g dt w1 is1 g1 dt1 de vs vs1 ρ) xs fun ys => Q (.lst ys)
/-! ### readings reckoned -/
theorem inD_strs (a : Str) (l : List Str) : inD (.str a) (l.map D.str) = decide (a ∈ l) := by
  unfold inD inV
  induction l with
  | nil => rfl
  | cons b r ih =>
    rw [List.map_cons, List.map_cons, List.any_cons, ih]
    show ((b == a) || _) = _
    by_cases h : b = a
    · subst h; simp
    · have : a ≠ b := fun e => h e.symm
      simp [h, this]
theorem flatD_strs (l : List Str) : (l.map D.str).all flatD = true := by
  rw [List.all_map]
  exact List.all_eq_true.mpr fun _ _ => rfl
theorem dInA_strT {neg : Bool} {a : Str} {l : List Str} {Q : D → Prop} : dInA neg (.str a) (.tup (l.map D.str)) Q = Q (.bl (neg ^^ decide (a ∈ l))) := by
  show (true = true ∧ (l.map D.str).all flatD = true ∧ Q (.bl (neg ^^ inD (.str a) (l.map D.str)))) = _
  rw [inD_strs, flatD_strs]
  simp
theorem dInA_strL {neg : Bool} {a : Str} {l : List Str} {Q : D → Prop} : dInA neg (.str a) (.lst (l.map D.str)) Q = Q (.bl (neg ^^ decide (a ∈ l))) := by
  show (true = true ∧ (l.map D.str).all flatD = true ∧ Q (.bl (neg ^^ inD (.str a) (l.map D.str)))) = _
  rw [inD_strs, flatD_strs]
  simp
/-- a comprehension over what is a map -/
theorem lcL_map {α : Type} {h : α → D} {f : D → (List D → Prop) → Prop} {g : α → List D} : ∀ {xs : List α} {Q : List D → Prop}, (∀ a ∈ xs, ∀ K : List D → Prop, K (g a) → f (h a) K) → Q (xs.flatMap g) → lcL f (xs.map h) Q
  | [], Q, _, q => q
  | x :: xs, Q, hf, q => by
    rw [List.map_cons]
    refine hf x List.mem_cons_self _ ?_
    exact lcL_map (fun a ha => hf a (List.mem_cons_of_mem _ ha)) (by rw [List.flatMap_cons] at q; exact q)
theorem flatMap_if {α β : Type} {c : α → Bool} {g : α → β} : ∀ (xs : List α), (xs.flatMap fun a => if c a = true then [g a] else []) = (xs.filter c).map g
  | [] => rfl
  | x :: xs => by
    rw [List.flatMap_cons, flatMap_if xs, List.filter_cons]
    by_cases h : c x = true
    · rw [if_pos h, if_pos h]; rfl
    · rw [if_neg h, if_neg h]; rfl
theorem lcL_filter {α : Type} {h : α → D} {f : D → (List D → Prop) → Prop} {c : α → Bool} {g : α → D} {xs : List α} {Q : List D → Prop} (hf : ∀ a ∈ xs, ∀ K : List D → Prop, (if c a = true then K [g a] else K []) → f (h a) K) (q : Q ((xs.filter c).map g)) : lcL f (xs.map h) Q := by
  refine lcL_map (g := fun a => if c a = true then [g a] else []) (fun a ha K hk => hf a ha K ?_) (by rw [flatMap_if]; exact q)
  by_cases hc : c a = true
  · rw [if_pos hc] at hk ⊢; exact hk
  · rw [if_neg hc] at hk ⊢; exact hk
theorem lcL_all {α : Type} {h : α → D} {f : D → (List D → Prop) → Prop} {g : α → D} {xs : List α} {Q : List D → Prop} (hf : ∀ a ∈ xs, ∀ K : List D → Prop, K [g a] → f (h a) K) (q : Q (xs.map g)) : lcL f (xs.map h) Q := by
  refine lcL_map (g := fun a => [g a]) hf ?_
  have e : ∀ ys : List α, ys.flatMap (fun a => [g a]) = ys.map g := fun ys => by
    induction ys with
    | nil => rfl
    | cons x r ih => rw [List.flatMap_cons, ih]; rfl
  rw [e]
  exact q
theorem keysD_map {α : Type} {k : α → List Key} (xs : List α) : keysD (xs.map k) = xs.map fun a => D.tup ((k a).map kD) := by
  unfold keysD
  rw [List.map_map]
  rfl
/-! the forms, where they are known -/
section
variable {Q : D → Prop} {i j : Int} {a b : Str} {c d : Bool} {xs ys : List D} {x y z : D}
theorem asInt_int {Q : Int → Prop} : asInt (.int i) Q = Q i := rfl
theorem asStr_str {Q : Str → Prop} : asStr (.str a) Q = Q a := rfl
theorem asBl_bl {Q : Bool → Prop} : asBl (.bl c) Q = Q c := rfl
theorem asLst_lst {Q : List D → Prop} : asLst (.lst xs) Q = Q xs := rfl
theorem asTup_tup {Q : List D → Prop} : asTup (.tup xs) Q = Q xs := rfl
theorem asSeq_lst {Q : List D → Prop} : asSeq (.lst xs) Q = Q xs := rfl
theorem asSeq_tup {Q : List D → Prop} : asSeq (.tup xs) Q = Q xs := rfl
theorem asDT_dT {ks : List (List Key)} {Q : List (List Key) → List D → Prop} : asDT (.dT ks xs) Q = Q ks xs := rfl
theorem asIns_ins {C : Addr} {ns : List Str} {Q : Addr → List Str → List D → Prop} : asIns (.ins C ns xs) Q = Q C ns xs := rfl
theorem asD_dK {ks : List Key} {Q : Prop} : asD (.dK ks xs) Q = Q := rfl
theorem asD_dT {ks : List (List Key)} {Q : Prop} : asD (.dT ks xs) Q = Q := rfl
theorem pr2_two {Q : D → D → Prop} : pr2 [x, y] Q = Q x y := rfl
theorem arg1_one {g : D → (D → Prop) → Prop} : arg1 g [x] Q = g x Q := rfl
theorem arg2_two {g : D → D → (D → Prop) → Prop} : arg2 g [x, y] Q = g x y Q := rfl
theorem onSome_some : onSome (some x) Q = Q x := rfl
theorem dSub_lst : dSub (.lst xs) (.int i) Q = onSome (atI xs i) Q := rfl
theorem dSub_tup : dSub (.tup xs) (.int i) Q = onSome (atI xs i) Q := rfl
theorem dSub_dT {ks : List (List Key)} : dSub (.dT ks xs) y Q = dGetO (.dT ks xs) y fun o => onSome o Q := rfl
theorem dSub_dK {ks : List Key} {k : Str} : dSub (.dK ks xs) (.str k) Q = onSome (lookD ks xs (.inr k)) Q := rfl
theorem dEq_int : dEq (.int i) (.int j) Q = Q (.bl (decide (i = j))) := rfl
theorem dEq_str : dEq (.str a) (.str b) Q = Q (.bl (decide (a = b))) := rfl
theorem dEq_bl : dEq (.bl c) (.bl d) Q = Q (.bl (decide (c = d))) := rfl
theorem dNe_int : dNe (.int i) (.int j) Q = Q (.bl (!decide (i = j))) := rfl
theorem dNe_str : dNe (.str a) (.str b) Q = Q (.bl (!decide (a = b))) := rfl
theorem dNe_bl : dNe (.bl c) (.bl d) Q = Q (.bl (!decide (c = d))) := rfl
theorem dAdd_int : dAdd (.int i) (.int j) Q = Q (.int (i + j)) := rfl
theorem dAdd_lst : dAdd (.lst xs) (.lst ys) Q = (xs.length + ys.length ≤ sizeLine ∧ Q (.lst (xs ++ ys))) := rfl
theorem dAdd_tup : dAdd (.tup xs) (.tup ys) Q = (xs.length + ys.length ≤ sizeLine ∧ Q (.tup (xs ++ ys))) := rfl
theorem dLt_int : dLt (.int i) (.int j) Q = Q (.bl (decide (i < j))) := rfl
theorem onZip_tup {Q : List D → Prop} : onZip (.tup xs) (.tup ys) Q = Q (zipD xs ys) := rfl
theorem onZip_lst {Q : List D → Prop} : onZip (.lst xs) (.lst ys) Q = Q (zipD xs ys) := rfl
theorem atI_two0 : atI [x, y] 0 = some x := rfl
theorem atI_two1 : atI [x, y] 1 = some y := rfl
theorem gTupD_tup {n : Nat} {g : List D → (List D → Prop) → Prop} {Q : List D → Prop} : gTupD n g (.tup xs) Q = (xs.length = n ∧ g xs Q) := rfl
theorem bl_ne (c d : Bool) : (!decide (c = d)) = (c != d) := by cases c <;> cases d <;> rfl
end
/-! ### further rules -/
section
variable {X : Cx} {dc : Option Addr} {a b c e : Expr} {da db d3 : DT} {pos : Pos}
/-- a < b < c -/
def dChain (g h : D → D → (D → Prop) → Prop) (da db d3 : DT) : DT := fun ρ Q => da ρ fun x => db ρ fun y => g x y fun z => asBl z fun k => if k = true then d3 ρ fun w => h y w Q else Q (.bl false)
theorem de_chain {op op' : CmpOp} {g h : D → D → (D → Prop) → Prop} (h1 : OpD X dc (compareOp op) g) (h2 : OpD X dc (compareOp op') h) (ha : DE X dc a da) (hb : DE X dc b db) (hc : DE X dc c d3)
    (hm : lastMarks [op, op'] [b, c] = false := by with_unfolding_all rfl) : DE X dc (.Compare a [op, op'] [b, c] pos) (dChain g h da db d3) := by
  obtain ⟨mg, r, o, q⟩ := h1
  obtain ⟨mg', r', o', q'⟩ := h2
  have m1 := ha.mono
  have m2 := hb.mono
  have m3 := hc.mono
  obtain ⟨t1, p1, r1⟩ := ha.get
  obtain ⟨t2, p2, r2⟩ := hb.get
  obtain ⟨t3, p3, r3⟩ := hc.get
  refine ⟨fun ρ P P' hP hh => m1 _ _ _ (fun x hh => m2 _ _ _ (fun y hh => mg _ _ _ _ (fun z hh => asBl.mono (fun k hh => ?_) hh) hh) hh) hh, _, pe_chain o o' p1 p2 p3 hm, fun ρ σ F H Q p s hh => ?_⟩
  · cases k with
    | true => exact iteT (m3 _ _ _ (fun w hh => mg' _ _ _ _ hP hh) (by simpa using hh))
    | false => exact iteF (hP _ (by simpa using hh))
  · refine r1 p s hh fun x v F1 H1 hh e1 q1 => r2 e1.pre (s.mono e1.fsub) hh fun y u F2 H2 hh e2 q2 => ?_
    refine q F2 H2 x y v u _ e2.pre (e2.rep q1) q2 (mg _ _ _ _ (fun z hz w F3 H3 e3 q3 => ?_) hh)
    obtain ⟨k, rfl, hk⟩ := hz.inv
    cases q3
    have e13 := (e1.trans p e2).trans p e3
    cases k with
    | true =>
      have hk2 : d3 ρ fun w => h y w (KV' dc F H Q) := by simpa using hk
      refine ⟨true, rfl, iteT (r3 e3.pre (((s.mono e1.fsub).mono e2.fsub).mono e3.fsub) hk2 fun w v4 F4 H4 hw e4 q4 => ?_)⟩
      exact q' _ _ _ _ _ _ _ e4.pre (e4.rep (e3.rep q2)) q4 (mg' _ _ _ _ (fun z hz => hz.on p (e13.trans p e4)) hw)
    | false => exact ⟨false, rfl, iteF ((show KV' dc F H Q (.bl false) by simpa using hk) _ _ _ e13 (.bl _))⟩
def dNeg (d : DT) : DT := fun ρ Q => d ρ fun x => asInt x fun i => Q (.int (-i))
theorem de_neg (ha : DE X dc a da) : DE X dc (.UnaryOp .USub a pos) (dNeg da) := by
  have m := ha.mono
  obtain ⟨t, p, r⟩ := ha.get
  refine ⟨fun ρ P P' hP h => m _ _ _ (fun x h => asInt.mono (fun i h => hP _ h) h) h, _, pe_un un_neg p, fun ρ σ F H Q pr s h => r pr s h fun x v F1 H1 h e1 r1 => ?_⟩
  obtain ⟨i, rfl, h1⟩ := h.inv
  cases r1
  exact ⟨i, rfl, h1 _ _ _ e1 (.int _)⟩
theorem cd_max2 (hc : X.calm = true) : CallD X dc (.builtin "max") (arg2 fun x y Q => asInt x fun i => asInt y fun j => Q (.int (if j > i then j else i))) :=
  .two (fun x y P P' hP h => asInt.mono (fun i h => asInt.mono (fun j h => hP _ h) h) h) (call_max2 hc) fun F H x y v u Q p rx ry h => by
    obtain ⟨i, rfl, h1⟩ := h.inv
    obtain ⟨j, rfl, h2⟩ := h1.inv
    cases rx
    cases ry
    exact ⟨i, j, rfl, h2.now p (.int _)⟩
theorem cd_min2 (hc : X.calm = true) : CallD X dc (.builtin "min") (arg2 fun x y Q => asInt x fun i => asInt y fun j => Q (.int (if j < i then j else i))) :=
  .two (fun x y P P' hP h => asInt.mono (fun i h => asInt.mono (fun j h => hP _ h) h) h) (call_min2 hc) fun F H x y v u Q p rx ry h => by
    obtain ⟨i, rfl, h1⟩ := h.inv
    obtain ⟨j, rfl, h2⟩ := h1.inv
    cases rx
    cases ry
    exact ⟨i, j, rfl, h2.now p (.int _)⟩
end
section
variable {P : Program} {w : World} {K : PySem.W.Frag} {mg : Str → Option Value} {base : Heap} {k j : Nat} {x : Str} {dfl : List D} {sp : DSp} {C : Addr} {f : Addr} {fd : FuncData} {ps : List Str}
theorem DFn.up (G : DFn P w K mg base k x dfl sp) (h : k ≤ j) : DFn P w K mg base j x dfl sp := by
  obtain ⟨m, f, fd, ps, ds, dvs, F, r⟩ := G
  exact ⟨m, f, fd, ps, ds, dvs, F.mono h, r⟩
theorem DMt.up (G : DMt P w K mg base k C x dfl sp) (h : k ≤ j) : DMt P w K mg base j C x dfl sp := by
  obtain ⟨m, f, fd, ps, ds, dvs, F, r⟩ := G
  exact ⟨m, f, fd, ps, ds, dvs, F.mono h, r⟩
theorem DPr.up (G : DPr P w K mg base k C x sp) (h : k ≤ j) : DPr P w K mg base j C x sp := by
  obtain ⟨m, f, p, fd, ps, F, r⟩ := G
  exact ⟨m, f, p, fd, ps, F.mono h, r⟩
theorem DFn.of (m : Mono sp) (F : FnOk P w K mg base CX0 k f fd ps (spD sp)) (h1 : mg x = some (.ref f)) (h2 : PySem.W.keepIn K (.ref f) = true) (h3 : Binds K fd ps []) : DFn P w K mg base k x [] sp := ⟨m, f, fd, ps, [], [], F, h1, h2, h3, .nil, flats_nil⟩
theorem DMt.of (m : Mono sp) (F : FnOk P w K mg base CX0 k f fd ps (spD sp)) (h1 : Cls K C) (h2 : Meth K C x f) (h3 : Binds K fd ps []) : DMt P w K mg base k C x [] sp := ⟨m, f, fd, ps, [], [], F, h1, h2, h3, .nil, flats_nil⟩
theorem DPr.of {p : Addr} (m : Mono sp) (F : FnOk P w K mg base CX0 k f fd ps (spD sp)) (h1 : Cls K C) (h2 : PropOf K C x p f) (h3 : Binds K fd ps []) : DPr P w K mg base k C x sp := ⟨m, f, p, fd, ps, F, h1, h2, h3⟩
end
/-! ### dict(list(d.items())) of a dict under tuples, locked or not; tuple(sorted(set(t))) -/
section
variable {X : Cx}
theorem call_listItR (hc : X.calm = true) : CallR X (.type "list") (fun xs H Q => ∃ (p a : Addr) (kvs : List (List Key × V)), xs = [.ref p] ∧ H p = some (L2.DX.itemsO p a) ∧ Rd H a (.dT kvs) ∧
    ∀ (H' : Hp) (l : Addr) (ts : List Addr), Same H H' → H l = none → H' l = some (.lst (ts.map V.ref)) → PairsT H' ts kvs → Q (.ref l) H') := by
  intro pins s σ H xs us Q I r h
  obtain ⟨p, a, kvs, rfl, hp, ha, q⟩ := h
  obtain ⟨u, rfl, rx⟩ := vals1 r
  cases (show u = Value.ref p from rx)
  have view : s.heap.IsItemsView p a := (show ObjOk X.prog X.w H s.heap p (L2.DX.itemsO p a) from I.hok p _ hp).1
  obtain ⟨z, hd, ks, rel, o, es, ep, ho, hx, hdat, hes, his, hn⟩ := dt_rd I.hok ha
  have l1 : kvs.length = ks.length := Paired.length rel
  have l2 : es.size = ks.length := size_of_entries hes
  refine list_view (I.ok.hd hc) view ⟨o, ho, hx, hdat⟩ (by omega) fun h' tk acc c as hk hS hl hG hacc => ?_
  have nd : as.Nodup := List.Pairwise.imp (fun h => Nat.ne_of_lt h) hG.rise
  have newS : H s.heap.objs.size = none := I.hok.fresh (Nat.le_refl _)
  have I1 : Inv X pins σ (upd H s.heap.objs.size (.lst (as.map V.ref))) { s with heap := h', toks := tk } :=
    I.laid (t' := tk) hk (Nat.le_refl _) (show ObjOk X.prog X.w _ h' _ (.lst (as.map V.ref)) from ⟨by rw [List.length_map]; omega, acc.toList, c, by rw [hacc]; exact refs_vals as, by simpa using hS⟩)
  obtain ⟨H2, I2, g, tq⟩ := L2.DX.takeT (P := fun b vs => ∃ (j : Nat) (kv : List Key × V) (kq : Addr), as[j]? = some b ∧ kvs[j]? = some kv ∧ H kq = some (.tup (kv.1.map kV)) ∧ vs = [.ref kq, kv.2]) I as _ I1 nd fun b hb => by
    obtain ⟨j, hj⟩ := List.mem_iff_getElem?.mp hb
    obtain ⟨en, he, hg⟩ := hG.pairs j b hj
    have hb0 := hG.above b hb
    refine ⟨Nat.le_of_lt hb0, ?_, ?_⟩
    · rw [upd_ne (Nat.ne_of_gt hb0)]
      exact I.hok.fresh (Nat.le_of_lt hb0)
    · rw [entry_at hes j] at he
      cases hkj : ks[j]? with
      | none => rw [hkj] at he; cases he
      | some x =>
        rw [hkj] at he
        cases (show entryOfKey (tupleKind (mixKind X.prog X.w)) x = en from Option.some.inj he)
        have hjl : j < kvs.length := by
          rw [l1]
          exact (List.getElem?_eq_some_iff.mp hkj).1
        obtain ⟨r1, r2, r3⟩ := paired_at rel (List.getElem?_eq_getElem hjl) hkj
        exact ⟨_, ⟨j, kvs[j], x.2.1, hj, List.getElem?_eq_getElem hjl, r2, rfl⟩, fun _ => ⟨by show 2 ≤ sizeLine; decide, [Value.ref x.2.1, x.2.2], .cons rfl (.cons r3 .nil), ⟨_, hg, rfl, 0, rfl⟩⟩⟩
  have sm : Same H H2 := fun b o e => g b o (by rw [upd_ne (ne_of_none e newS)]; exact e)
  refine ⟨.ref s.heap.objs.size, H2, I2, rfl, q H2 _ as sm newS (g _ _ upd_same) (paired_of (by omega) fun j b kv hb hkv => ?_)⟩
  obtain ⟨vs, ⟨i, kv', kq, hi, hkv', hq, rfl⟩, e2⟩ := tq b (List.mem_of_getElem? hb)
  have := nodup_ix nd hi hb
  subst this
  rw [hkv] at hkv'
  cases hkv'
  exact ⟨kq, e2, sm _ _ hq⟩
variable {o : Expr} {to : TE} {apos cpos : Pos}
theorem pe_itemsR (ho : PE X o to)
    (hbase : attributeBase o "items" X.env (eval o X.env) = eval o X.env := by rfl) (hline : (apos.endLine == cpos.line) = true := by rfl) : PE X (.Call (.Attribute o "items" apos) [] [] cpos)
      (fun σ H Q => to σ H fun x H1 => ∃ a kvs, x = .ref a ∧ Rd H1 a (.dT kvs) ∧ ∀ p, H1 p = none → Q (.ref p) (upd H1 p (L2.DX.itemsO p a))) := by
  refine ⟨fun pins s σ H Q I h => ?_⟩
  refine wpAny_Call_method0_late hbase hline (thn (ho.run pins s σ H _ I h) fun v s1 ⟨x, H1, I1, r1, a, kvs, ex, rd, q1⟩ => ?_)
  subst ex
  cases (show v = Value.ref a from r1)
  obtain ⟨z, hd, xs', rel, o, es, ep, ho, hx, hdat, _⟩ := dt_rd I1.hok rd
  refine ⟨"dict", "dict.items", PySem.F.plainAttrs_dict, PySem.F.slot_dict_items, PySem.F.type_dict_items, ⟨o, ho, hx.1⟩, fun b e2 => ?_, Calls.callWith_builtin rfl (PySem.evalArgs_none ?_)⟩
  · cases e2
    exact ⟨o, ho, hx.2.1⟩
  · refine DT.callItems (es := es) (ep := ep) hd ⟨o, ho, hx, hdat⟩ ?_
    have hf : H1 s1.heap.objs.size = none := I1.hok.fresh (Nat.le_refl _)
    exact ⟨.ref s1.heap.objs.size, upd H1 s1.heap.objs.size (L2.DX.itemsO s1.heap.objs.size a), I1.laid (t' := s1.toks) (fun b u e => Heap.get?_push_of_some _ e) (Nat.le_refl _) (L2.DX.itemsO_ok (Heap.get?_push_size _ rfl)), rfl, q1 _ hf⟩
end
/-- a dict under tuples, each once -/
def asDTn (x : D) (Q : List (List Key) → List D → Prop) : Prop := match x with
  | .dT ks vs => ks.Nodup ∧ Q ks vs
  | _ => False
theorem asDTn.inv {x : D} {Q : List (List Key) → List D → Prop} (h : asDTn x Q) : ∃ ks vs, x = .dT ks vs ∧ ks.Nodup ∧ Q ks vs := by
  cases x <;> first | exact ⟨_, _, rfl, h⟩ | exact h.elim
theorem asDTn.mono {x : D} {P Q : List (List Key) → List D → Prop} (h : ∀ a b, P a b → Q a b) (p : asDTn x P) : asDTn x Q := by
  obtain ⟨ks, vs, rfl, n, q⟩ := p.inv
  exact ⟨n, h _ _ q⟩
theorem zip_keys {α β : Type} : ∀ (ks : List α) (vs : List β), ks.length = vs.length → (ks.zip vs).map (·.1) = ks
  | [], [], _ => rfl
  | [], _ :: _, h => by simp at h
  | _ :: _, [], h => by simp at h
  | k :: ks, v :: vs, h => by
    rw [List.zip_cons_cons, List.map_cons, zip_keys ks vs (by simpa using h)]
/-! ### nets by data -/
def lotD (l : List Str) : D := .tup (l.map D.str)
def pairD (k : Str × Str) : D := .tup [.str k.1, .str k.2]
def tiesD (ts : Ties) : D := .dT (ts.map fun e => kP e.1) (ts.map fun e => .int e.2)
def netD (ps : List Str) (ts : Ties) : D := .dK [.inr "places", .inr "ties"] [.lst (ps.map D.str), tiesD ts]
def madeD (C : Addr) (ps : List Str) (ts : Ties) : D := .ins C ["_places", "_ties"] [lotD ps, tiesD ts]
def ascS (l : List Str) : Bool := (l.zip l.tail).all fun p => ltS p.1 p.2
def isLot (p l : List Str) : Bool := (l.all fun s => decide (s ∈ p)) && ascS l
def parts (l : List Str) (k : Str × Str) : Bool := decide (k.1 ∈ l) != decide (k.2 ∈ l)
def cutT (ts : Ties) (l : List Str) : Int := ((ts.filter fun e => parts l e.1).map (·.2)).sum
def outS (p l : List Str) : List Str := p.filter fun s => !decide (s ∈ l)
def inS (p l : List Str) : List Str := p.filter fun s => decide (s ∈ l)
def tbS (ts : Ties) (a b : List Str) : Int := (a.flatMap fun x => b.map fun y => getT ts (ordP x y)).sum
theorem find_of {ts : Ties} {e : (Str × Str) × Int} (nd : (ts.map (·.1)).Nodup) (h : e ∈ ts) : (ts.find? fun f => decide (f.1 = e.1)) = some e := by
  induction ts with
  | nil => cases h
  | cons f r ih =>
    rw [List.map_cons, List.nodup_cons] at nd
    rw [List.find?_cons]
    rcases List.mem_cons.mp h with rfl | h
    · simp
    · have : f.1 ≠ e.1 := fun z => nd.1 (by rw [z]; exact List.mem_map.mpr ⟨e, h, rfl⟩)
      rw [decide_eq_false this]
      exact ih nd.2 h
theorem getT_of {ts : Ties} {e : (Str × Str) × Int} (nd : (ts.map (·.1)).Nodup) (h : e ∈ ts) : getT ts e.1 = e.2 := by
  unfold getT
  rw [find_of nd h]
  rfl
theorem kP_inj' {a b : Str × Str} (h : kP a = kP b) : a = b := by
  unfold kP at h
  injection h with h1 h2
  injection h2 with h2 _
  injection h1 with h1
  injection h2 with h2
  exact Prod.ext h1 h2
theorem look_ties : ∀ (ts : Ties) (k : Str × Str), lookD (ts.map fun e => kP e.1) (ts.map fun e => D.int e.2) (kP k) = (ts.find? fun e => decide (e.1 = k)).map fun e => D.int e.2
  | [], _ => rfl
  | e :: r, k => by
    show (if kP e.1 = kP k then some (D.int e.2) else lookD (r.map fun e => kP e.1) (r.map fun e => D.int e.2) (kP k)) = _
    rw [List.find?_cons]
    by_cases h : e.1 = k
    · rw [if_pos (by rw [h]), decide_eq_true h]
      rfl
    · rw [if_neg (fun z => h (kP_inj' z)), decide_eq_false h]
      exact look_ties r k
theorem look_getD (ts : Ties) (k : Str × Str) : ((lookD (ts.map fun e => kP e.1) (ts.map fun e => D.int e.2) (kP k)).getD (.int 0)) = .int (getT ts k) := by
  rw [look_ties]
  unfold getT
  cases ts.find? fun e => decide (e.1 = k) <;> rfl
theorem look_at {ts : Ties} {e : (Str × Str) × Int} (nd : (ts.map (·.1)).Nodup) (h : e ∈ ts) : lookD (ts.map fun e => kP e.1) (ts.map fun e => D.int e.2) (kP e.1) = some (.int e.2) := by
  rw [look_ties, find_of nd h]
  rfl
theorem dLt_str {a b : Str} {Q : D → Prop} : dLt (.str a) (.str b) Q = Q (.bl (ltS a b)) := rfl
theorem keysD_ties (ts : Ties) : keysD (ts.map fun e => kP e.1) = ts.map fun e => pairD e.1 := by rw [keysD_map]; rfl
theorem fld_places {x y : D} : fldD ["_places", "_ties"] [x, y] "_places" = some x := by rfl
theorem fld_ties {x y : D} : fldD ["_places", "_ties"] [x, y] "_ties" = some y := by rfl
theorem look_pl {x y : D} : lookD [(Sum.inr "places" : Key), .inr "ties"] [x, y] (.inr "places") = some x := by rfl
theorem look_ti {x y : D} : lookD [(Sum.inr "places" : Key), .inr "ties"] [x, y] (.inr "ties") = some y := by rfl
section
variable {Q : D → Prop} {k : Str × Str}
theorem dSub_pair0 : dSub (pairD k) (.int 0) Q = Q (.str k.1) := rfl
theorem dSub_pair1 : dSub (pairD k) (.int 1) Q = Q (.str k.2) := rfl
theorem dGetO_pair {ks : List (List Key)} {vs : List D} {Q : Option D → Prop} : dGetO (.dT ks vs) (pairD k) Q = Q (lookD ks vs (kP k)) := rfl
theorem dInA_strTup {neg : Bool} {a : Str} {l : List Str} : dInA neg (.str a) (lotD l) Q = Q (.bl (neg ^^ decide (a ∈ l))) := dInA_strT
theorem asSeq_lot {l : List Str} {Q : List D → Prop} : asSeq (lotD l) Q = Q (l.map D.str) := rfl
theorem asTup_lot {l : List Str} {Q : List D → Prop} : asTup (lotD l) Q = Q (l.map D.str) := rfl
theorem asDT_ties {ts : Ties} {Q : List (List Key) → List D → Prop} : asDT (tiesD ts) Q = Q (ts.map fun e => kP e.1) (ts.map fun e => .int e.2) := rfl
theorem dSub_ties {ts : Ties} : dSub (tiesD ts) (pairD k) Q = onSome (lookD (ts.map fun e => kP e.1) (ts.map fun e => .int e.2) (kP k)) Q := rfl
theorem dGet_ties {ts : Ties} {Q : Option D → Prop} : dGetO (tiesD ts) (pairD k) Q = Q (lookD (ts.map fun e => kP e.1) (ts.map fun e => .int e.2) (kP k)) := rfl
theorem asD_ties {ts : Ties} {Q : Prop} : asD (tiesD ts) Q = Q := rfl
theorem asIns_made {C : Addr} {ps : List Str} {ts : Ties} {Q : Addr → List Str → List D → Prop} : asIns (madeD C ps ts) Q = Q C ["_places", "_ties"] [lotD ps, tiesD ts] := rfl
theorem dSub_netp {ps : List Str} {ts : Ties} : dSub (netD ps ts) (.str "places") Q = Q (.lst (ps.map D.str)) := by rfl
theorem dSub_nett {ps : List Str} {ts : Ties} : dSub (netD ps ts) (.str "ties") Q = Q (tiesD ts) := by rfl
end
theorem dKey_ties {ps : List Str} {ts : Ties} {ρ : DEnv} {Q : D → Prop} {i : Nat} (h : ρ[i]? = some (some (netD ps ts))) : dKey "ties" (dVar i) ρ Q = Q (tiesD ts) := by
  unfold dKey dVar
  rw [h]
  rfl
local macro_rules | `(tactic| walk_at "dred") => `(tactic| try simp only [sRet, sSet, sIf, sSeq, sExpr, sAsg, sPar2, dCall, dCons, dNil, dLc, dLcK, dLc2, iSeq, iZipD, dVar, dB, d2, dC, dTup, dLst, dAnd, dOr, dNot, dAndV, dOrV, dNotV, dIf, dYes, dFn, dPr, dMt, dFld, retE, visD, startS, Sl.seen, setAllS,
  lcF, lcF2, gN, gsN, gsC, setAllD, wipeD, arg1_one, arg2_two, asSeq_lst, asSeq_tup, asSeq_lot, asTup_tup, asTup_lot, asLst_lst, asInt_int, asStr_str, asBl_bl, asIns_ins, asIns_made, asDT_dT, asDT_ties, asD_dK, asD_dT, asD_ties, pr2_two, onSome_some, dSub_lst, dSub_tup, dSub_dT, dSub_dK, dSub_pair0, dSub_pair1, dSub_ties, dSub_netp, dSub_nett, dGetO_pair, dGet_ties,
  dEq_int, dEq_str, dEq_bl, dNe_int, dNe_str, dNe_bl, dLt_str, dLt_int, dAdd_int, dAdd_lst, dAdd_tup, onZip_tup, onZip_lst, atI_two0, atI_two1, gTupD_tup, fld_places, fld_ties, look_pl, look_ti, dInA_strT, dInA_strL, dInA_strTup,
  List.map_cons, List.map_nil, List.length_cons, List.length_nil, List.replicate, List.cons_append, List.nil_append, List.append_nil, List.getElem?_cons_zero, List.getElem?_cons_succ, List.set_cons_zero, List.set_cons_succ, Nat.reduceAdd, Nat.reduceSub, Bool.false_xor, Bool.true_xor, Nat.sub_self, Nat.add_one_sub_one, reduceIte, if_true, if_false, true_and, and_true])
abbrev s_check_net : Stmt := topS 35
theorem sc_check_net : FnScope ["value"] ["value"] (defScope s_check_net) := ⟨rfl, rfl, rfl, by decide +kernel, rfl, by decide +kernel, by decide +kernel⟩
abbrev s_Net_places : Stmt := inClass (topS 36) 2
theorem sc_Net_places : FnScope ["self"] ["self"] (defScope s_Net_places) := ⟨rfl, rfl, rfl, by decide +kernel, rfl, by decide +kernel, by decide +kernel⟩
abbrev s_Net__check_place : Stmt := inClass (topS 36) 37
theorem sc_Net__check_place : FnScope ["self", "place"] ["self", "place"] (defScope s_Net__check_place) := ⟨rfl, rfl, rfl, by decide +kernel, rfl, by decide +kernel, by decide +kernel⟩
section
variable {P : Program} {w : World} {K : PySem.W.Frag} {mg : Str → Option Value} {base : Heap}
/-! the net's own methods -/
variable {C : Addr}
def spPlaces (C : Addr) : DSp := fun xs Q => ∃ ps ts, xs = [madeD C ps ts] ∧ Q (lotD ps)
theorem ok_Net_places {f : Addr} {fd : FuncData} {k : Nat} (F : Fun K "places" "Net.places" s_Net_places f fd) (c0 : Cls K C) (n_places : NoAttr K C "_places") : FnOk P w K mg base CX0 (k + 1) f fd ["self"] (spD (spPlaces C)) := by
  refine fnD_ok F sc_Net_places (fun xs Q h => ?_) (fun dc cdv A outer s0 H E hr =>
    (dss_one (ds_ret (dp_fld c0 n_places (dp_var 0)).de))) (fun xs Q h => ?_)
  · obtain ⟨ps, ts, rfl, _⟩ := h; rfl
  · obtain ⟨ps, ts, rfl, q⟩ := h
    walk_at "dred"
    exact q
def spCheckPlace (C : Addr) : DSp := fun xs Q => ∃ ps ts a, xs = [madeD C ps ts, .str a] ∧ a ∈ ps ∧ Q .non
theorem ok_Net__check_place {f : Addr} {fd : FuncData} {k : Nat} (F : Fun K "_check_place" "Net._check_place" s_Net__check_place f fd) (c0 : Cls K C) (n_places : NoAttr K C "_places") : FnOk P w K mg base CX0 (k + 1) f fd ["self", "place"] (spD (spCheckPlace C)) := by
  refine fnD_ok F sc_Net__check_place (fun xs Q h => ?_) (fun dc cdv A outer s0 H E hr =>
    (dss_one (ds_if (dc_cmp (opd_notinA (hu_of hr)) (de_var 1) (dp_fld c0 n_places (dp_var 0)).de (by rfl)) (dss_one ds_never) dss_nil))) (fun xs Q h => ?_)
  · obtain ⟨ps, ts, k, rfl, _⟩ := h; rfl
  · obtain ⟨ps, ts, a, rfl, ha, q⟩ := h
    walk_at "dred"
    rw [decide_eq_true ha]
    exact iteF q
end
section
variable {P : Program} {w : World} {K : PySem.W.Frag} {mg : Str → Option Value} {base : Heap} {C : Addr}
def spCheckNet (C : Addr) : DSp := fun xs Q => ∃ ps ts, xs = [madeD C ps ts] ∧ Q .non
theorem ok_check_net {f : Addr} {fd : FuncData} {k : Nat} (F : Fun K "check_net" "check_net" s_check_net f fd) (cI : C8.InsC K C) (m_isinstance : mg "isinstance" = none) (m_Net : mg "Net" = some (.ref C)) : FnOk P w K mg base CX0 (k + 1) f fd ["value"] (spD (spCheckNet C)) := by
  refine fnD_ok F sc_check_net (fun xs Q h => ?_) (fun dc cdv A outer s0 H E hr =>
    (dss_one (ds_if (dc_not (dc_val (de_callB (cd_isi (K := K) rfl) (by rfl) m_isinstance (by decide +kernel) (da_cons (de_var 0) (da_cons (de_globR (by rfl) m_Net) da_nil))))) (dss_one ds_never) dss_nil))) (fun xs Q h => ?_)
  · obtain ⟨ps, ts, rfl, _⟩ := h; rfl
  · obtain ⟨ps, ts, rfl, q⟩ := h
    walk_at "dred"
    refine ⟨_, _, true, .ins cI _ _, .own _, cI.me, ?_⟩
    walk_at "dred"
    exact iteF q
end
/-! ### the law's own defs that are proved over the heap, by data -/
theorem Ext.sd {dc : Option Addr} {F H H' : Hp} {d : Addr} (p : Pre dc F H) (e : dc = some d) (s : Sd d H H') : Ext dc F H F H' := by
  have k : ∀ a o, dc ≠ some a → H a = some o → H' a = some o := fun a o hd h => s.keep a o (fun z => hd (by rw [e, z])) h
  have nd : ∀ a o, F a = some o → dc ≠ some a := fun a o h z => by
    rw [(p.dice a z).2] at h
    cases h
  refine ⟨⟨fun a o h => (p.sub a o h).keep fun u q => k a u (nd a o h) q, fun a z => ?_, fun q hq => (p.tabs q hq).on (fun _ _ h _ => h) fun ps z h => k _ _ (nd _ _ z) h⟩, fun a o h q => kp_of (k a o h q), fun _ _ h => h, fun _ _ h => .inl h⟩
  · rw [e] at z
    cases z
    exact ⟨s.dice, (p.dice d e).2⟩
def spRollD : DSp := fun xs Q => ∃ n, xs = [.cell, .int n] ∧ 0 < n ∧ n < 1073741824 ∧ ∀ r, 0 ≤ r → r < n → Q (.int r)
theorem roll_imp : ∀ vs H Q E, spD spRollD vs H Q E → spRoll vs H Q E := fun vs H Q E ⟨dc, F, xs, p, r, n, e, h0, h1, q⟩ => by
  subst e
  cases r with
  | cons a b =>
  cases b with
  | cons b c =>
  cases c
  cases b
  cases a with
  | @cell d e =>
  refine ⟨d, n, rfl, (p.dice d e).1, h0, h1, fun r x y z r0 r1 => q r r0 r1 _ F _ (Ext.sd p e (sd_put x y z)) (.int r)⟩
theorem tk_zip (ts : Ties) : (ts.map fun e => kP e.1).zip (ts.map fun e => V.int e.2) = tk ts := by
  unfold tk
  rw [List.zip_map', ]
theorem Reps.tints {dc : Option Addr} {F : Hp} : ∀ (ts : Ties), Reps dc F (ts.map fun e => D.int e.2) (ts.map fun e => V.int e.2)
  | [] => .nil
  | e :: r => .cons (.int _) (Reps.tints r)
theorem Rep.ties {dc : Option Addr} {F : Hp} {ti : Addr} {ts : Ties} (h : F ti = some (.dT (tk ts))) : Rep dc F (tiesD ts) (.ref ti) := by
  refine .dT (vs := ts.map fun e => V.int e.2) ?_ (by rw [List.length_map, List.length_map]) (Reps.tints ts)
  rw [tk_zip]
  exact h
theorem Rep.ties_inv {dc : Option Addr} {F : Hp} {v : V} {ts : Ties} (r : Rep dc F (tiesD ts) v) : ∃ ti, v = .ref ti ∧ F ti = some (.dT (tk ts)) := by
  have key : ∀ {ks : List (List Key)} {xs : List D}, Rep dc F (.dT ks xs) v → xs = (ts.map fun e => D.int e.2) → ks = (ts.map fun e => kP e.1) → ∃ ti, v = .ref ti ∧ F ti = some (.dT (tk ts)) := fun {ks xs} r e1 e2 => by
    cases r with
    | @dT a _ _ ws ef l rr =>
      subst e1 e2
      have hw : ws = (ts.map fun e => V.int e.2) := by
        have e3 : (ts.map fun e => D.int e.2) = (ts.map (·.2)).map D.int := by rw [List.map_map]; rfl
        rw [e3] at rr
        rw [rr.ints_eq, List.map_map]
        rfl
      subst hw
      rw [tk_zip] at ef
      exact ⟨a, rfl, ef⟩
  exact key r rfl rfl
def spNetD : DSp := fun xs Q => xs = [.cell] ∧ ∀ ps ts, GoodN ps ts → Q (netD ps ts)
theorem net_imp : ∀ vs H Q E, spD spNetD vs H Q E → spNet vs H Q E := fun vs H Q E ⟨dc, F, xs, p, r, e, q⟩ => by
  subst e
  cases r with
  | cons a b =>
  cases b
  cases a with
  | @cell d e =>
  refine ⟨d, rfl, (p.dice d e).1, fun H' N ps ts pl ti s na g nN npl nti => ?_⟩
  have e0 := Ext.sd p e s
  have h1 := p.nf nN
  have d1 := p.nd nN
  have n12 : pl ≠ N := ne_of na.pl na.net (fun z => nomatch z)
  have n13 : ti ≠ N := ne_of na.ti na.net (fun z => nomatch z)
  have n23 : ti ≠ pl := ne_of na.ti na.pl (fun z => nomatch z)
  have e1 := e0.close nN na.net (show SubO H' N (.dK _) from .inl na.net) d1 h1
  have e2 := e1.close npl na.pl (show SubO H' pl (.lst _) from na.pl) (p.nd npl) (by rw [upd_ne n12]; exact p.nf npl)
  have e3 := e2.close nti na.ti (show SubO H' ti (.dT _) from .inl na.ti) (p.nd nti) (by rw [upd_ne n23, upd_ne n13]; exact p.nf nti)
  refine q ps ts g _ _ _ e3 ?_
  refine .dK (vs := [.ref pl, .ref ti]) ?_ rfl (.cons (.lst ?_ (Reps.strs ps)) (.cons (Rep.ties upd_same) .nil))
  · rw [upd_ne n13.symm, upd_ne n12.symm, upd_same]
    rfl
  · rw [upd_ne n23.symm, upd_same]
abbrev s__law_cut : Stmt := topS 57
theorem sc__law_cut : FnScope ["net", "lot", "pair"] ["net", "lot"] (defScope s__law_cut) := ⟨rfl, rfl, rfl, by decide +kernel, rfl, by decide +kernel, by decide +kernel⟩
section
variable {P : Program} {w : World} {K : PySem.W.Frag} {mg : Str → Option Value} {base : Heap} {C : Addr}
def spLawCut : DSp := fun xs Q => ∃ ps ts l, xs = [netD ps ts, lotD l] ∧ ts.length ≤ 1000 ∧ (ts.map (·.1)).Nodup ∧ Q (.int (cutT ts l))
theorem ok__law_cut {f : Addr} {fd : FuncData} {k : Nat} (F : Fun K "_law_cut" "_law_cut" s__law_cut f fd) (m_sum : mg "sum" = none) : FnOk P w K mg base CX0 (k + 1) f fd ["net", "lot"] (spD spLawCut) := by
  refine fnD_ok F sc__law_cut (fun xs Q h => ?_) (fun dc cdv A outer s0 H E hr =>
    (dss_one (ds_ret (de_callB (cd_sum rfl) (by rfl) m_sum (by decide +kernel) (da_cons (de_lcK (own := [("pair", 2)]) rfl sc__law_cut.nd (dp_key (hu_of hr) (dp_var 0)) (blkOk_by (N := ["net", "lot", "pair"]) (sc := defScope s__law_cut) (by decide +kernel)) (fun _ _ _ _ _ => (dg_name (i := 2) sc__law_cut.nd rfl (Or.inl rfl))) (fun _ _ _ _ _ => (dts_one (dc_cmp (opd_ne (hr.units)) (de_cmp (opd_inA (hu_of hr)) (de_sub (hu_of hr) (de_var 2) de_int) (de_var 1) (by rfl)) (de_cmp (opd_inA (hu_of hr)) (de_sub (hu_of hr) (de_var 2) de_int) (de_var 1) (by rfl)) (nomark _)))) (fun _ _ _ _ _ => (de_sub (hu_of hr) (de_sub (hu_of hr) (de_var 0) de_str) (de_var 2))) (by decide)) da_nil))))) (fun xs Q h => ?_)
  · obtain ⟨ps, ts, l, rfl, _⟩ := h; rfl
  · obtain ⟨ps, ts, l, rfl, ht, nd, q⟩ := h
    walk_at "dred"
    rw [dKey_ties (ps := ps) (ts := ts) rfl]
    walk_at "dred"
    refine ⟨by rw [List.length_map]; exact Nat.le_of_lt (small1000 ht), ?_⟩
    rw [keysD_ties]
    refine lcL_filter (g := fun e => D.int e.2) (c := fun e => parts l e.1) (fun e he K hk => ?_) ?_
    · walk_at "dred"
      rw [bl_ne, look_at nd he]
      exact hk
    · have e : (ts.filter fun e => parts l e.1).map (fun e => D.int e.2) = ((ts.filter fun e => parts l e.1).map (·.2)).map D.int := by rw [List.map_map]; rfl
      rw [e]
      exact asInts.of q
end
/-! ### the net of a plain one -/
structure MadeOk (ps : List Str) (ts : Ties) : Prop where
  len : ts.length < 900
  nodup : (ts.map (·.1)).Nodup
  okp : ∀ p ∈ ps, okStr p
  okt : ∀ e ∈ ts, okStr e.1.1 ∧ okStr e.1.2
  pb : placesB ps = true
  tb : tiesB ps ts = true
theorem nodup_kP {ts : Ties} (h : (ts.map (·.1)).Nodup) : (ts.map fun e => kP e.1).Nodup := by
  have e : (ts.map fun e => kP e.1) = (ts.map (·.1)).map kP := by rw [List.map_map]; rfl
  rw [e]
  exact List.Pairwise.map _ (fun a b hab z => hab (kP_inj z)) h
theorem tup_strs {dc : Option Addr} {F : Hp} {u : V} {ps : List Str} (r : Rep dc F (lotD ps) u) : ∃ t, u = .ref t ∧ F t = some (.tup (ps.map V.str)) := by
  have key : ∀ {xs : List D}, Rep dc F (.tup xs) u → xs = ps.map D.str → ∃ t, u = .ref t ∧ F t = some (.tup (ps.map V.str)) := fun {xs} r e => by
    cases r with
    | tup ef rr =>
      subst e
      rw [rr.strs_eq] at ef
      exact ⟨_, rfl, ef⟩
  exact key r rfl
def dMade (C : Addr) (d1 d2 : DT) : DT := fun ρ Q => d1 ρ fun y => d2 ρ fun x => ∃ ps ts, y = lotD ps ∧ x = tiesD ts ∧ MadeOk ps ts ∧ ∀ qs, qs.Perm ps → sortedS qs = true → Q (madeD C qs (sortTi ts))
section
variable {X : Cx} {dc : Option Addr} {e1 e : Expr} {d1 d : DT} {k : Nat} {f C : Addr} {fd : FuncData}
theorem Ext.ok {F H F' H' : Hp} {a : Addr} {o : HO} (e : Ext dc F H F' H') (hd : dc ≠ some a) (h : H a = some o) (n : ∀ ps, o ≠ .tbl ps := by intro _ z; cases z) : H' a = some o := by
  have k := e.keep a o hd h
  cases o with
  | tbl ps => exact absurd rfl (n ps)
  | _ => exact k
/-- Net(places, dict(list(ties.items()))) -/
theorem de_made {p0 p1 p2 p3 p4 p5 pn pc : Pos} (M : Mk X.K C f) (G : FnOk X.prog X.w X.K X.mg X.base CX0 k f fd ["self", "places", "ties"] (spInit C)) (hr : Room (k + 1) X.A) (gn : Gl X "Net") (hm : X.mg "Net" = some (.ref C)) (hb : Binds X.K fd ["self", "places", "ties"] [])
    (hc : X.calm = true) (hu : X.A.units + 3 < cLine) (he1 : DE X dc e1 d1) (he : DE X dc e d) (gd : Gl X "dict") (md : X.mg "dict" = none) (gl : Gl X "list") (ml : X.mg "list" = none)
    (hs : starEach [e1, .Call (.Name "dict" p1) [.Call (.Name "list" p2) [.Call (.Attribute e "items" p4) [] [] p5] [] p3] [] p0] X.env = (false, eval e1 X.env) :: starEach [.Call (.Name "dict" p1) [.Call (.Name "list" p2) [.Call (.Attribute e "items" p4) [] [] p5] [] p3] [] p0] X.env := by rfl)
    (hpl : (backTo pc (starEach [.Call (.Name "dict" p1) [.Call (.Name "list" p2) [.Call (.Attribute e "items" p4) [] [] p5] [] p3] [] p0] X.env)).any (·.1) = false := by rfl)
    (hbase : attributeBase e "items" X.env (eval e X.env) = eval e X.env := by rfl) (hline : (p4.endLine == p5.line) = true := by rfl) :
    DE X dc (.Call (.Name "Net" pn) [e1, .Call (.Name "dict" p1) [.Call (.Name "list" p2) [.Call (.Attribute e "items" p4) [] [] p5] [] p3] [] p0] [] pc) (dMade C d1 d) := by
  have m1 := he1.mono
  have m := he.mono
  obtain ⟨t1, q1, r1⟩ := he1.get
  obtain ⟨t, p, r⟩ := he.get
  refine ⟨fun ρ P P' hP h => m1 _ _ _ (fun y h => m _ _ _ (fun x ⟨ps, ts, a, b, c, q⟩ => ⟨ps, ts, a, b, c, fun qs h1 h2 => hP _ (q qs h1 h2)⟩) h) h, _,
    pe_make M G hr gn hm hb .nil pass0 (pa_cons q1 (pa_cons (pe_callTy (call_dictT hc hu) gd md (by decide +kernel) (pa_cons (pe_callTy (call_listItR hc) gl ml (by decide +kernel) (pa_cons (pe_itemsR p hbase hline) pa_nil)) pa_nil)) pa_nil) hs) (by decide) hs hpl, fun ρ σ F H Q pr s h => ?_⟩
  refine r1 pr s h fun y u F1 H1 h e1' r1' => ?_
  refine r e1'.pre (s.mono e1'.fsub) h fun x v F2 H2 h e2' r2' => ?_
  obtain ⟨ps, ts, rfl, rfl, ok, q⟩ := h
  obtain ⟨ti, rfl, ef⟩ := r2'.ties_inv
  obtain ⟨t', rfl, eft⟩ := tup_strs (e2'.rep r1')
  have rd : Rd H2 ti (.dT (tk ts)) := e2'.pre.sub _ _ ef
  have ht : H2 t' = some (.tup (ps.map V.str)) := e2'.pre.sub _ _ eft
  refine ⟨ti, _, rfl, rd, fun vw nv => ?_⟩
  have g1 := same_upd (H := H2) (o := L2.DX.itemsO vw ti) nv
  have rd2 : Rd (upd H2 vw (L2.DX.itemsO vw ti)) ti (.dT (tk ts)) := rd.elim (fun h => .inl (g1 _ _ h)) fun ⟨o, h⟩ => .inr ⟨o, g1 _ _ h⟩
  refine ⟨vw, ti, _, rfl, upd_same, rd2, fun H3 l2 cs sm nl el prs => ⟨l2, cs, _, rfl, el, prs, fun td ntd => ?_⟩⟩
  have g2 : Same H2 H3 := g1.trans sm
  rw [mergeT_nil (tk_nodup ok.nodup)]
  have g3 : Same H2 (upd H3 td (.dT (tk ts))) := g2.trans (same_upd ntd)
  have etd : (upd H3 td (.dT (tk ts))) td = some (.dT (tk ts)) := upd_same
  generalize upd H3 td (.dT (tk ts)) = H4 at g3 etd ⊢
  intro x dx nx ndx nxd
  have g4 : Same H4 (upd (upd H4 dx (.own x)) x (.ins C dx [])) := (same_upd ndx).trans (same_upd (by rw [upd_ne nxd.symm]; exact nx))
  refine ⟨x, dx, t', td, ps, ts, rfl, upd_same, g4 _ _ (g3 _ _ ht), g4 _ _ etd, ok.len, ok.nodup, ok.okp, ok.okt, ok.pb, ok.tb, fun H5 qs pm srt kp no => ⟨rfl, ?_⟩⟩
  obtain ⟨t5, d5, ex, et5, ed5, nt5, nd5⟩ := no.ex
  have g5 : Same H2 H5 := fun a o h => kp a o (fun z => by
    rw [z] at h
    rw [g3 _ _ h] at nx
    cases nx) (g4 _ _ (g3 _ _ h))
  have fr : ∀ a, (upd (upd H4 dx (.own x)) x (.ins C dx [])) a = none → H2 a = none := fun a z => by
    cases w : H2 a with
    | none => rfl
    | some o =>
      rw [g4 _ _ (g3 _ _ w)] at z
      cases z
  have nx2 : H2 x = none := by
    cases w : H2 x with
    | none => rfl
    | some o =>
      rw [g3 _ _ w] at nx
      cases nx
  have pr2 := e2'.pre
  have E0 := Ext.grow pr2 g5
  have E1 := E0.close nx2 ex (show SubO H5 x (.ins C dx _) from ex) (pr2.nd nx2) (pr2.nf nx2)
  have n1 : t5 ≠ x := ne_of et5 ex (fun z => nomatch z)
  have n2 : d5 ≠ x := ne_of ed5 ex (fun z => nomatch z)
  have n3 : d5 ≠ t5 := ne_of ed5 et5 (fun z => nomatch z)
  have E2 := E1.close (fr _ nt5) et5 (show SubO H5 t5 (.tup _) from et5) (pr2.nd (fr _ nt5)) (by rw [upd_ne n1]; exact pr2.nf (fr _ nt5))
  have E3 := E2.close (fr _ nd5) ed5 (show SubO H5 d5 (.dT _) from .inl ed5) (pr2.nd (fr _ nd5)) (by rw [upd_ne n3, upd_ne n2]; exact pr2.nf (fr _ nd5))
  refine q qs pm srt _ _ _ ((e1'.trans pr e2').trans pr E3) ?_
  refine .ins (dx := dx) (vs := [.ref t5, .ref d5]) ?_ rfl (.cons (.tup ?_ (Reps.strs qs)) (.cons (Rep.ties upd_same) .nil))
  · rw [upd_ne n2.symm, upd_ne n1.symm, upd_same]
    rfl
  · rw [upd_ne n3.symm, upd_same]
end
section
variable {P : Program} {w : World} {K : PySem.W.Frag} {mg : Str → Option Value} {base : Heap} {C : Addr}
abbrev s__law_made : Stmt := topS 56
theorem sc__law_made : FnScope ["net"] ["net"] (defScope s__law_made) := ⟨rfl, rfl, rfl, by decide +kernel, rfl, by decide +kernel, by decide +kernel⟩
def spLawMade (C : Addr) : DSp := fun xs Q => ∃ ps ts, xs = [netD ps ts] ∧ MadeOk ps ts ∧ ∀ qs, qs.Perm ps → sortedS qs = true → Q (madeD C qs (sortTi ts))
theorem ok__law_made {f g : Addr} {fd gd : FuncData} {k : Nat} (F : Fun K "_law_made" "_law_made" s__law_made f fd) (M : Mk K C g) (G : FnOk P w K mg base CX0 k g gd ["self", "places", "ties"] (spInit C)) (hm : mg "Net" = some (.ref C)) (hb : Binds K gd ["self", "places", "ties"] [])
    (md : mg "dict" = none) (ml : mg "list" = none) (mt : mg "tuple" = none) : FnOk P w K mg base CX0 (k + 1 + 1) f fd ["net"] (spD (spLawMade C)) := by
  refine fnD_ok F sc__law_made (fun xs Q h => ?_) (fun dc cdv A outer s0 H E hr =>
    (dss_one (ds_ret (de_made M G hr (by rfl) hm hb rfl (room3 hr) (de_callTy cd_tuple (by rfl) mt (by decide +kernel) (da_cons (de_sub (hu_of hr) (de_var 0) de_str) da_nil)) (de_sub (hu_of hr) (de_var 0) de_str) (by rfl) md (by rfl) ml)))) (fun xs Q h => ?_)
  · obtain ⟨ps, ts, rfl, _⟩ := h; rfl
  · obtain ⟨ps, ts, rfl, ok, q⟩ := h
    unfold sRet dMade
    walk_at "dred"
    exact ⟨ps, ts, rfl, rfl, ok, q⟩
end
/-! ### set(t) of a tuple of texts, and sorted of it -/
section
variable {P : Program} {w : World}
def keyE (e : Int × Value) : Str := match e.2 with | .str x _ => x | _ => ⟨#[]⟩
def GoodS (w : World) (e : Int × Value) : Prop := ∃ x tk, e.2 = Value.str x tk ∧ e.1 = hashStr w x
/-- the set of texts at a -/
def SetRS (w : World) (h : Heap) (a : Addr) (S : Str → Bool) (n : Nat) : Prop :=
  ∃ o es ep t, h.get? a = some o ∧ o.ExactSet ∧ o.data = .set es ep t ∧ (∀ e ∈ es.toList, GoodS w e) ∧ (es.toList.map keyE).Nodup ∧ (∀ k, S k = true ↔ k ∈ es.toList.map keyE) ∧
    es.size < scanBound ∧ t.fits es.size = true ∧ es.size = n ∧ L2.Ris t.place.toList ∧ (w.params.followText "set-order" = true ∨ t.led = true)
variable {h h' : Heap} {a : Addr} {S : Str → Bool} {n : Nat}
theorem SetRS.at (R : SetRS w h a S n) (k : ∀ o, h.get? a = some o → h'.get? a = some o) : SetRS w h' a S n := by
  obtain ⟨o, es, ep, t, ho, r⟩ := R
  exact ⟨o, es, ep, t, k o ho, r⟩
end
section
variable {S : Type} [DecidableEq S]
abbrev Tz (S : Type) := List ((S × S) × Int)
def getTz (ts : Tz S) (k : S × S) : Int := ((ts.find? fun e => decide (e.1 = k)).map (·.2)).getD 0
theorem getTz_cons {e : (S × S) × Int} {r : Tz S} {k : S × S} (h : e.1 ∉ r.map (·.1)) : getTz (e :: r) k = (if e.1 = k then e.2 else 0) + getTz r k := by
  unfold getTz
  rw [List.find?_cons]
  by_cases c : e.1 = k
  · subst c
    have : (r.find? fun f => decide (f.1 = e.1)) = none := by
      rw [List.find?_eq_none]
      intro f hf z
      exact h (List.mem_map.mpr ⟨f, hf, of_decide_eq_true z⟩)
    rw [this]
    simp
  · simp [c]
theorem sum_flat_add {α β : Type} (A : List α) (B : List β) (f g : α → β → Int) : (A.flatMap fun x => B.map fun y => f x y + g x y).sum = (A.flatMap fun x => B.map (f x)).sum + (A.flatMap fun x => B.map (g x)).sum := by
  have one : ∀ (x : α) (B : List β), (B.map fun y => f x y + g x y).sum = (B.map (f x)).sum + (B.map (g x)).sum := by
    intro x B
    induction B with
    | nil => rfl
    | cons y r ih => simp only [List.map_cons, List.sum_cons, ih]; omega
  induction A with
  | nil => rfl
  | cons x r ih => simp only [List.flatMap_cons, List.sum_append, one, ih]; omega
theorem sum_flat_zero {α β : Type} (A : List α) (B : List β) : (A.flatMap fun _ => B.map fun _ => (0 : Int)).sum = 0 := by
  have one : ∀ (B : List β), (B.map fun _ => (0 : Int)).sum = 0 := by
    intro B
    induction B with
    | nil => rfl
    | cons y r ih => simp only [List.map_cons, List.sum_cons, ih]; omega
  induction A with
  | nil => rfl
  | cons x r ih => simp only [List.flatMap_cons, List.sum_append, one, ih]; omega
/-- one pair among the pairs -/
theorem sum_one {α : Type} [DecidableEq α] {β : Type} [DecidableEq β] (u : α) (v : β) (w : Int) : ∀ (A : List α) (B : List β), A.Nodup → B.Nodup → (A.flatMap fun x => B.map fun y => if x = u ∧ y = v then w else 0).sum = if u ∈ A ∧ v ∈ B then w else 0 := by
  intro A B na nb
  have z : ∀ (B : List β), (B.map fun _ => (0 : Int)).sum = 0 := by
    intro B
    induction B with
    | nil => rfl
    | cons y r ih => simp only [List.map_cons, List.sum_cons, ih]; omega
  have one : ∀ (B : List β), B.Nodup → (B.map fun y => if y = v then w else 0).sum = if v ∈ B then w else 0 := by
    intro B nb
    induction B with
    | nil => simp
    | cons y r ih =>
      rw [List.nodup_cons] at nb
      simp only [List.map_cons, List.sum_cons, ih nb.2, List.mem_cons]
      by_cases c : y = v
      · subst c
        simp [nb.1]
      · have c' : ¬ v = y := fun h => c h.symm
        simp [c, c']
  induction A with
  | nil => simp
  | cons x r ih =>
    rw [List.nodup_cons] at na
    simp only [List.flatMap_cons, List.sum_append, ih na.2, List.mem_cons]
    by_cases c : x = u
    · subst c
      have : (B.map fun y => if x = x ∧ y = v then w else 0) = B.map fun y => if y = v then w else 0 := by simp
      rw [this, one B nb]
      by_cases d : v ∈ B <;> simp [d, na.1]
    · have : (B.map fun y => if x = u ∧ y = v then w else 0) = B.map fun _ => (0 : Int) := by simp [c]
      have c' : ¬ u = x := fun h => c h.symm
      rw [this, z]
      simp [c']
variable (lt : S → S → Bool)
def ordz (x y : S) : S × S := if lt x y = true then (x, y) else (y, x)
def tbz (ts : Tz S) (a b : List S) : Int := (a.flatMap fun x => b.map fun y => getTz ts (ordz lt x y)).sum
def joins (a b : List S) (k : S × S) : Bool := (decide (k.1 ∈ a) && decide (k.2 ∈ b)) || (decide (k.2 ∈ a) && decide (k.1 ∈ b))
theorem tbz_sum (hlt : ∀ x y, lt x y = true → lt y x = false) : ∀ (ts : Tz S) (a b : List S), (ts.map (·.1)).Nodup → (∀ e ∈ ts, lt e.1.1 e.1.2 = true) → (htot : ∀ x y, x ≠ y → lt x y = false → lt y x = true) → a.Nodup → b.Nodup → (∀ x ∈ a, x ∉ b) → tbz lt ts a b = (ts.map fun e => if joins a b e.1 = true then e.2 else 0).sum
  | [], a, b, _, _, _, _, _, _ => by
    have : tbz lt ([] : Tz S) a b = (a.flatMap fun _ => b.map fun _ => (0 : Int)).sum := rfl
    rw [this, sum_flat_zero]
    rfl
  | e :: r, a, b, nd, ho, htot, na, nb, hd => by
    rw [List.map_cons, List.nodup_cons] at nd
    have ih := tbz_sum hlt r a b nd.2 (fun f hf => ho f (List.mem_cons_of_mem _ hf)) htot na nb hd
    have h1 : tbz lt (e :: r) a b = (a.flatMap fun x => b.map fun y => if e.1 = ordz lt x y then e.2 else 0).sum + tbz lt r a b := by
      unfold tbz
      rw [← sum_flat_add]
      congr 1
      congr 1
      funext x
      congr 1
      funext y
      exact getTz_cons nd.1
    rw [h1, ih, List.map_cons, List.sum_cons]
    congr 1
    have ho' := ho e List.mem_cons_self
    obtain ⟨⟨u, v⟩, w⟩ := e
    simp only at ho' ⊢
    have hne : u ≠ v := fun z => by subst z; have := hlt _ _ ho'; rw [ho'] at this; cases this
    have h2 : (a.flatMap fun x => b.map fun y => if (u, v) = ordz lt x y then w else 0).sum = (a.flatMap fun x => b.map fun y => (if x = u ∧ y = v then w else 0) + (if x = v ∧ y = u then w else 0)).sum := by
      congr 1
      rw [List.flatMap_def, List.flatMap_def]
      congr 1
      refine List.map_congr_left fun x hx => List.map_congr_left fun y hy => ?_
      have hxy : x ≠ y := fun z => hd x hx (by rw [z]; exact hy)
      unfold ordz
      by_cases c : lt x y = true
      · rw [if_pos c]
        have n : ¬ (x = v ∧ y = u) := fun ⟨h1, h2⟩ => by subst h1 h2; rw [hlt _ _ ho'] at c; cases c
        rw [if_neg n]
        by_cases d : x = u ∧ y = v
        · obtain ⟨rfl, rfl⟩ := d; simp
        · rw [if_neg d, if_neg (fun z => d (by injection z with z1 z2; exact ⟨z1.symm, z2.symm⟩))]
          rfl
      · rw [if_neg c]
        have c' : lt y x = true := htot x y hxy (by simpa using c)
        have n : ¬ (x = u ∧ y = v) := fun ⟨h1, h2⟩ => by subst h1 h2; exact c ho'
        rw [if_neg n]
        by_cases d : x = v ∧ y = u
        · obtain ⟨rfl, rfl⟩ := d; simp
        · rw [if_neg d, if_neg (fun z => d (by injection z with z1 z2; exact ⟨z2.symm, z1.symm⟩))]
          rfl
    rw [h2, sum_flat_add, sum_one u v w a b na nb, sum_one v u w a b na nb]
    unfold joins
    by_cases p1 : u ∈ a
    · have p1' := hd u p1
      by_cases p2 : v ∈ a
      · have p2' := hd v p2
        simp [p1, p2, p1', p2']
      · by_cases p3 : v ∈ b <;> simp [p1, p2, p1', p3]
    · by_cases p2 : v ∈ a
      · have p2' := hd v p2
        by_cases p3 : u ∈ b <;> simp [p1, p2, p2', p3]
      · simp [p1, p2]
end
/-! ### reckoning with ties -/
def sumT (f : (Str × Str) × Int → Int) (ts : Ties) : Int := (ts.map f).sum
theorem sumT_congr {f g : (Str × Str) × Int → Int} {ts : Ties} (h : ∀ e ∈ ts, f e = g e) : sumT f ts = sumT g ts := by
  unfold sumT
  rw [List.map_congr_left h]
theorem sumT_add {f g : (Str × Str) × Int → Int} : ∀ {ts : Ties}, sumT (fun e => f e + g e) ts = sumT f ts + sumT g ts
  | [] => rfl
  | e :: r => by
    have := sumT_add (f := f) (g := g) (ts := r)
    unfold sumT at this ⊢
    simp only [List.map_cons, List.sum_cons, this]
    omega
theorem sumT_sub {f g : (Str × Str) × Int → Int} : ∀ {ts : Ties}, sumT (fun e => f e - g e) ts = sumT f ts - sumT g ts
  | [] => rfl
  | e :: r => by
    have := sumT_sub (f := f) (g := g) (ts := r)
    unfold sumT at this ⊢
    simp only [List.map_cons, List.sum_cons, this]
    omega
theorem sumT_two {f : (Str × Str) × Int → Int} : ∀ {ts : Ties}, sumT (fun e => 2 * f e) ts = 2 * sumT f ts
  | [] => rfl
  | e :: r => by
    have := sumT_two (f := f) (ts := r)
    unfold sumT at this ⊢
    simp only [List.map_cons, List.sum_cons, this]
    omega
def cutI (l : List Str) (e : (Str × Str) × Int) : Int := if parts l e.1 = true then e.2 else 0
def joinI (a b : List Str) (e : (Str × Str) × Int) : Int := if joins a b e.1 = true then e.2 else 0
theorem cutT_sum (l : List Str) : ∀ ts : Ties, cutT ts l = sumT (cutI l) ts
  | [] => rfl
  | e :: r => by
    have := cutT_sum l r
    unfold cutT sumT at this ⊢
    rw [List.filter_cons, List.map_cons, List.sum_cons, ← this]
    unfold cutI
    by_cases c : parts l e.1 = true
    · rw [if_pos c, if_pos c]; rfl
    · rw [if_neg c, if_neg c]; omega
/-- ties of a made net -/
structure MG (ps : List Str) (ts : Ties) : Prop where
  asc : ps.Pairwise fun a b => ltS a b = true
  keys : ∀ e ∈ ts, e.1.1 ∈ ps ∧ e.1.2 ∈ ps ∧ ltS e.1.1 e.1.2 = true
  nodup : (ts.map (·.1)).Nodup
  pos : ∀ e ∈ ts, 1 ≤ e.2
theorem tbS_sum {ps : List Str} {ts : Ties} (g : MG ps ts) {a b : List Str} (na : a.Nodup) (nb : b.Nodup) (hd : ∀ x ∈ a, x ∉ b) : tbS ts a b = sumT (joinI a b) ts :=
  tbz_sum ltS (fun x y h => ltS_asymm h) ts a b g.nodup (fun e he => (g.keys e he).2.2) (fun x y hne h => by
    rcases ltS_tri hne with z | z
    · rw [h] at z; cases z
    · exact z) na nb hd
theorem mem_inS {p l : List Str} {x : Str} : x ∈ inS p l ↔ x ∈ p ∧ x ∈ l := by unfold inS; rw [List.mem_filter, decide_eq_true_eq]
theorem mem_outS {p l : List Str} {x : Str} : x ∈ outS p l ↔ x ∈ p ∧ x ∉ l := by unfold outS; rw [List.mem_filter]; simp
section
variable {ps a b j : List Str} {e : (Str × Str) × Int}
theorem pw_sum (hd : ∀ x ∈ a, x ∉ b) (hj : ∀ x, x ∈ j ↔ x ∈ a ∨ x ∈ b) : cutI a e + cutI b e - 2 * joinI a b e = cutI j e := by
  unfold joinI cutI joins parts
  simp only [hj]
  have d1 := hd e.1.1
  have d2 := hd e.1.2
  by_cases h1 : e.1.1 ∈ a <;> by_cases h2 : e.1.2 ∈ a <;> by_cases h3 : e.1.1 ∈ b <;> by_cases h4 : e.1.2 ∈ b <;> simp [h1, h2, h3, h4] at d1 d2 ⊢ <;> omega
end
section
variable {ps : List Str} {ts : Ties} {a b j : List Str}
theorem asc_nodup {l : List Str} (h : l.Pairwise fun a b => ltS a b = true) : l.Nodup := h.imp fun {x y} hx z => by
  subst z
  have := ltS_asymm hx
  rw [hx] at this
  cases this
theorem ascS_iff : ∀ {l : List Str}, ascS l = true ↔ l.Pairwise fun a b => ltS a b = true
  | [] => ⟨fun _ => .nil, fun _ => rfl⟩
  | [x] => ⟨fun _ => List.pairwise_singleton _ _, fun _ => rfl⟩
  | x :: y :: r => by
    have ih := ascS_iff (l := y :: r)
    have e : ascS (x :: y :: r) = (ltS x y && ascS (y :: r)) := rfl
    rw [e, Bool.and_eq_true, ih]
    constructor
    · rintro ⟨h1, h2⟩
      refine .cons (fun z hz => ?_) h2
      rcases List.mem_cons.mp hz with rfl | hz
      · exact h1
      · exact ltS_trans h1 (List.rel_of_pairwise_cons h2 hz)
    · intro h
      exact ⟨List.rel_of_pairwise_cons h List.mem_cons_self, (List.pairwise_cons.mp h).2⟩
structure LotOk (ps l : List Str) : Prop where
  mem : ∀ x ∈ l, x ∈ ps
  asc : l.Pairwise fun a b => ltS a b = true
theorem LotOk.is {ps l : List Str} (h : LotOk ps l) : isLot ps l = true := by
  unfold isLot
  rw [Bool.and_eq_true, List.all_eq_true]
  exact ⟨fun x hx => decide_eq_true (h.mem x hx), ascS_iff.mpr h.asc⟩
theorem LotOk.nd {ps l : List Str} (h : LotOk ps l) : l.Nodup := asc_nodup h.asc
theorem LotOk.ins {ps a : List Str} (h : LotOk ps a) (b : List Str) : LotOk ps (inS a b) := ⟨fun x hx => h.mem x (mem_inS.mp hx).1, h.asc.filter _⟩
theorem LotOk.out {ps a : List Str} (h : LotOk ps a) (b : List Str) : LotOk ps (outS a b) := ⟨fun x hx => h.mem x (mem_outS.mp hx).1, h.asc.filter _⟩
theorem LotOk.all {ps : List Str} (h : ps.Pairwise fun a b => ltS a b = true) : LotOk ps ps := ⟨fun _ h => h, h⟩
theorem len_sub : ∀ {l ps : List Str}, l.Nodup → (∀ x ∈ l, x ∈ ps) → l.length ≤ ps.length
  | [], _, _, _ => Nat.zero_le _
  | x :: r, ps, nd, h => by
    rw [List.nodup_cons] at nd
    have hx := h x List.mem_cons_self
    have ih := len_sub (l := r) (ps := ps.erase x) nd.2 fun y hy => (List.mem_erase_of_ne (fun z => nd.1 (by rw [← z]; exact hy))).mpr (h y (List.mem_cons_of_mem _ hy))
    rw [List.length_erase_of_mem hx] at ih
    have : 0 < ps.length := List.length_pos_of_mem hx
    rw [List.length_cons]
    omega
theorem LotOk.len {ps l : List Str} (h : LotOk ps l) : l.length ≤ ps.length := len_sub h.nd h.mem
variable (g : MG ps ts) (ha : LotOk ps a) (hb : LotOk ps b)
include g ha hb
theorem ex_sum (hd : ∀ x ∈ a, x ∉ b) (hj : ∀ x, x ∈ j ↔ x ∈ a ∨ x ∈ b) : cutT ts a + cutT ts b - 2 * tbS ts a b = cutT ts j := by
  rw [tbS_sum g ha.nd hb.nd hd, cutT_sum, cutT_sum, cutT_sum, ← sumT_two, ← sumT_add, ← sumT_sub]
  exact sumT_congr fun e he => pw_sum hd hj
end
/-! ### enumerate(t, start=k), t a tuple -/
def IteT (K : PySem.W.Frag) (a : Addr) (k : Int) : It :=
  ⟨fun i H => ∃ (xs : List V) (x : V), SqT K H a xs ∧ xs[i]? = some x, fun i H v H' => ∃ T x, v = .ref T ∧ H T = none ∧ H' = upd H T (.tup [.int (k + (i : Int)), x]) ∧ ∀ xs, SqT K H a xs → xs[i]? = some x, fun i H => ∃ xs : List V, SqT K H a xs ∧ xs.length ≤ i⟩
theorem turn_enumT {P : Program} {w : World} {K : PySem.W.Frag} {elts : List Expr} {kk : Nat} {tpos : Pos} (a e it : Addr) (k : Int) :
    Turn P w K (.Tuple elts kk tpos) (IteT K a k) [e, it] e (fun i h => (∃ old, IsEnum h e it (k + ((i : Nat) : Int)) old) ∧ h.IsTupleIter it a i ∧ e ≠ it) where
  mem := by simp
  obj := fun i h st b hb => by
    obtain ⟨⟨old, he⟩, ⟨o, ho, hc, hd⟩, _⟩ := st
    have e' : b = e ∨ b = it := by simpa using hb
    rcases e' with z | z
    · rw [z]; exact ⟨_, he, fun v q => nomatch q⟩
    · rw [z]; exact ⟨o, ho, fun v q => by rw [hd] at q; cases q⟩
  keep := fun i h h' st k => let ⟨⟨old, he⟩, hi, hne⟩ := st; ⟨⟨old, k e (by simp) _ he⟩, hi.at fun o q => k it (by simp) o q, hne⟩
  item := by
    intro X hP hw hK hc i pins s σ H E I hf st hg
    subst hP hw hK
    obtain ⟨⟨old, he⟩, hit, hne⟩ := st
    obtain ⟨xs, x, hq, hx⟩ := hg
    obtain ⟨its, rv, p, hz⟩ := I.tuple hq
    obtain ⟨u, hu, ru⟩ := rv.get hx
    have hel : e < s.heap.objs.size := Heap.lt_size he
    have hil : it < s.heap.objs.size := by obtain ⟨_, q, _⟩ := hit; exact Heap.lt_size q
    have hea : e ≠ a := fun z => by
      obtain ⟨o, ho, hc', _⟩ := p
      rw [← z] at ho
      have he' : s.heap.get? e = some _ := he
      rw [he'] at ho
      cases ho
      exact absurd (Value.type.inj hc') (by decide)
    have hia : a ≠ it := fun z => by
      obtain ⟨o, ho, hc', _⟩ := p
      obtain ⟨o2, ho2, hc2, _⟩ := hit
      rw [z, ho2] at ho
      cases ho
      rw [hc2] at hc'
      exact absurd (Value.type.inj hc') (by decide)
    have hl : its.toArray.size = its.length := by simp
    have hi : i < its.toArray.size := by
      have := (List.getElem?_eq_some_iff.mp hu).1
      omega
    have D := Draws.tuple (prog := X.prog) (w := X.w) (A := X.A.in1) (by simpa using I.ok.hd hc) it a hia its.toArray
    refine wpAny_pyNext_enum_itemC D he ⟨hit, p⟩ hi hne (by simp only [List.mem_cons, List.mem_singleton, List.not_mem_nil, or_false, not_or]; exact ⟨hne, hea⟩) fun u' h' tk hP ho hit' hT hsz hk => ?_
    have eu : u' = u := by
      have hP' : its.toArray[i]? = some u' := hP
      rw [show its.toArray[i]? = its[i]? by simp, hu] at hP'
      exact (Option.some.inj hP').symm
    subst eu
    refine ⟨_, rfl, wpAny_letOwnedTupleGo_enum (s := { s with heap := h', toks := tk + 1 }) ho fun h'' he' sb => ?_⟩
    have hT2 : h''.get? s.heap.objs.size = some { cls := .type "tuple", data := .seq #[.int (k + (i : Int)) tk, u'] } := (sb.2 _ (Nat.ne_of_gt hel)).trans hT
    have new : ObjOk X.prog X.w (upd H s.heap.objs.size (.tup [.int (k + (i : Int)), x])) h'' s.heap.objs.size (.tup [.int (k + (i : Int)), x]) :=
      ⟨by show 2 ≤ sizeLine; decide, [.int (k + (i : Int)) tk, u'], .cons ⟨_, rfl⟩ (.cons ru .nil), ⟨_, hT2, rfl, _, rfl⟩⟩
    have I1 : Inv X pins σ (upd H s.heap.objs.size (.tup [.int (k + (i : Int)), x])) { s with heap := h'', toks := tk + 1 } :=
      I.turnedNew (ch := [e, it]) (fun b ob hb q => (sb.2 b (fun z => hb (by simp [z]))).trans (hk b ob (fun z => hb (by simp [z])) (fun z => hb (by simp [z])) q)) hf (Nat.le_refl _) new
    refine ⟨.ref s.heap.objs.size, _, I1, rfl, ⟨_, x, rfl, I.hok.fresh (Nat.le_refl _), rfl, fun ys hy => by rw [I.tuple_inj hy hq]; exact hx⟩, ⟨⟨u', ?_⟩, hit'.1.at fun o q => (sb.2 it (Ne.symm hne)).trans q, hne⟩, fun b hb => ?_⟩
    · have e1 : k + ((i + 1 : Nat) : Int) = k + (i : Int) + 1 := by omega
      rw [e1]; exact he'
    · have hb' : b < s.heap.objs.size := by
        have e' : b = e ∨ b = it := by simpa using hb
        rcases e' with z | z
        · rw [z]; exact hel
        · rw [z]; exact hil
      rw [upd_ne (Nat.ne_of_lt hb')]
      exact (hf b hb).1
  done := by
    intro X hP hw hK hc i pins s σ H E I hf st hg
    subst hP hw hK
    obtain ⟨⟨old, he⟩, hit, hne⟩ := st
    obtain ⟨xs, hq, hx⟩ := hg
    obtain ⟨its, rv, p, hz⟩ := I.tuple hq
    obtain ⟨f0, f1, f2, f3, f4, f5⟩ := hf it (by simp)
    have hl := rv.length
    have hia : a ≠ it := fun z => by
      obtain ⟨o, ho, hc', _⟩ := p
      obtain ⟨o2, ho2, hc2, _⟩ := hit
      rw [z, ho2] at ho
      cases ho
      rw [hc2] at hc'
      exact absurd (Value.type.inj hc') (by decide)
    have en : its.toArray.size ≤ i := by simp; omega
    have hT : s.TypeIs (.ref e) "enumerate" := ⟨_, he, rfl⟩
    unfold pyNext
    refine wpAny_bind (wpAny_attempt (wpAny_callSpecial?_slot (name := Str.ofString "__next__") hT PySem.F.slot_enumerate_next
      (wpAny_call_entry PySem.F.slot_enumerate_next hT PySem.F.entry_enumerate_next ?_ (PySem.F.args_enumerate_next_1 _))))
    show wpAny _ _ (field (.ref e) 2 >>= _) _ _ _
    refine wpAny_bind (wpAny_field he rfl (x := .ref it) rfl ?_)
    refine wpAny_bind (wpAny_nextOf_tuple_end (by simpa using I.ok.hd hc) hit p (by simp; omega) fun h' x eb hx' => ?_)
    obtain ⟨o, ho, hc'⟩ := hx'
    refine wpAny_bind (wpAny_isInstance (T := "StopIteration") (b := true) ⟨o, ho, hc'⟩ isSubtype_stop ?_)
    exact wpAny_pure ⟨rfl, I.turned (t' := s.toks) (fun b o hb q => eb b o hb q) f0 f1 f3 f4 f5⟩
  self := fun A i s Q E st h => let ⟨⟨_, he⟩, _⟩ := st; wpAny_pyIter_enum he h
/-! ### own dicts: made, filled, handed on -/
section
variable {dc : Option Addr} {F0 H0 F H : Hp} {ρ : SEnv} {σ : L2.St}
theorem Ext.past {p : Addr} {o : HO} (e : Ext dc F0 H0 F H) (n0 : H0 p = none) (nF : F p = none) (nd : dc ≠ some p) : Ext dc F0 H0 F (upd H p o) := by
  refine ⟨⟨fun b u q => ?_, fun d z => ?_, fun q hq => (e.pre.tabs q hq).on (fun _ _ h _ => h) fun ps z h => by rw [upd_ne (fun y => by rw [y, nF] at z; cases z)]; exact h⟩, fun b u hb q => ?_, e.fsub, e.fnew⟩
  · have hb : b ≠ p := fun z => by rw [z, nF] at q; cases q
    exact (e.pre.sub b u q).keep fun u' h => by rw [upd_ne hb]; exact h
  · obtain ⟨⟨x, y, w, h⟩, n⟩ := e.pre.dice d z
    have hb : d ≠ p := fun q => nd (by rw [z, q])
    exact ⟨⟨x, y, w, by rw [upd_ne hb]; exact h⟩, n⟩
  · have hb' : b ≠ p := fun z => by rw [z, n0] at q; cases q
    rw [upd_ne hb']
    exact e.keep b u hb q
theorem set_own {i j : Nat} {s : Sl} {y : Sl} (h : (ρ.set i s)[j]? = some y) : (i = j ∧ y = s ∧ i < ρ.length) ∨ (i ≠ j ∧ ρ[j]? = some y) := by
  by_cases hj : i = j
  · subst hj
    have hl : i < ρ.length := by
      have := (List.getElem?_eq_some_iff.mp h).1
      rwa [List.length_set] at this
    rw [List.getElem?_set_self hl] at h
    exact .inl ⟨rfl, (Option.some.inj h).symm, hl⟩
  · rw [List.getElem?_set_ne hj] at h
    exact .inr ⟨hj, h⟩
theorem SInv.newOwn {p : Addr} {o : HO} {x : D} {i : Nat} (I : SInv dc F0 H0 ρ σ F H) (np : H p = none) (ho : OwnO dc F o x) : SInv dc F0 H0 (ρ.set i (.own x)) (σ.set i (some (.ref p))) F (upd H p o) := by
  have nF : F p = none := I.ext.pre.nf np
  have n0 : H0 p = none := I.ext.free I.pre0 np
  have nd : dc ≠ some p := I.ext.pre.nd np
  refine ⟨I.pre0, I.ext.past n0 nF nd, by rw [List.length_set, List.length_set]; exact I.len, fun j y h => ?_, fun j y h => ?_, fun j k y z a h1 h2 h3 h4 => ?_⟩
  · rcases set_own h with ⟨_, z, _⟩ | ⟨hj, h⟩
    · cases z
    · rw [List.getElem?_set_ne hj]
      exact I.vals j y h
  · rcases set_own h with ⟨hj, z, hl⟩ | ⟨hj, h⟩
    · subst hj
      cases z
      exact ⟨p, o, List.getElem?_set_self (by rw [← I.len]; exact hl), upd_same, ho, nF, n0, nd⟩
    · obtain ⟨a, u, h1, h2, h3, h4, h5, h6⟩ := I.owns j y h
      exact ⟨a, u, by rw [List.getElem?_set_ne hj]; exact h1, by rw [upd_ne (ne_of_none h2 np)]; exact h2, h3, h4, h5, h6⟩
  · have key : ∀ {j : Nat} {y : D}, (ρ.set i (.own x))[j]? = some (.own y) → (σ.set i (some (.ref p)))[j]? = some (some (.ref a)) → (i = j ∧ a = p) ∨ (i ≠ j ∧ ρ[j]? = some (.own y) ∧ σ[j]? = some (some (.ref a)) ∧ a ≠ p) := fun {j y} h g => by
      rcases set_own h with ⟨hj, z, hl⟩ | ⟨hj, h⟩
      · subst hj
        rw [List.getElem?_set_self (by rw [← I.len]; exact hl)] at g
        cases g
        exact .inl ⟨rfl, rfl⟩
      · rw [List.getElem?_set_ne hj] at g
        obtain ⟨a', u, h1, h2, _⟩ := I.owns j y h
        rw [g] at h1
        cases h1
        exact .inr ⟨hj, h, g, ne_of_none h2 np⟩
    rcases key h1 h3 with ⟨e1, e2⟩ | ⟨e1, e2, e3, e4⟩ <;> rcases key h2 h4 with ⟨g1, g2⟩ | ⟨g1, g2, g3, g4⟩
    · rw [← e1, g1]
    · exact absurd e2 g4
    · exact absurd g2 e4
    · exact I.apart j k y z a e2 g2 e3 g3
theorem SInv.put {a : Addr} {o : HO} {x x' : D} {i : Nat} (I : SInv dc F0 H0 ρ σ F H) (hi : ρ[i]? = some (.own x)) (hs : σ[i]? = some (some (.ref a))) (nF : F a = none) (n0 : H0 a = none) (nd : dc ≠ some a) (ho : OwnO dc F o x') : SInv dc F0 H0 (ρ.set i (.own x')) σ F (upd H a o) := by
  refine ⟨I.pre0, I.ext.past n0 nF nd, by rw [List.length_set]; exact I.len, fun j y h => ?_, fun j y h => ?_, fun j k y z b h1 h2 h3 h4 => ?_⟩
  · rcases set_own h with ⟨_, z, _⟩ | ⟨hj, h⟩
    · cases z
    · exact I.vals j y h
  · rcases set_own h with ⟨hj, z, hl⟩ | ⟨hj, h⟩
    · subst hj
      cases z
      exact ⟨a, o, hs, upd_same, ho, nF, n0, nd⟩
    · obtain ⟨b, u, h1, h2, h3, h4, h5, h6⟩ := I.owns j y h
      have hb : b ≠ a := fun z => hj (I.apart i j x y a hi h hs (by rw [← z]; exact h1))
      exact ⟨b, u, h1, by rw [upd_ne hb]; exact h2, h3, h4, h5, h6⟩
  · have key : ∀ {j : Nat} {y : D}, (ρ.set i (.own x'))[j]? = some (.own y) → ∃ w, ρ[j]? = some (.own w) := fun {j y} h => by
      rcases set_own h with ⟨hj, _, _⟩ | ⟨_, h⟩
      · exact ⟨x, by rw [← hj]; exact hi⟩
      · exact ⟨y, h⟩
    obtain ⟨w1, g1⟩ := key h1
    obtain ⟨w2, g2⟩ := key h2
    exact I.apart j k w1 w2 b g1 g2 h3 h4
theorem SInv.freeze {x : D} {i : Nat} (I : SInv dc F0 H0 ρ σ F H) (hi : ρ[i]? = some (.own x)) : ∃ F', SInv dc F0 H0 (ρ.set i (.val x)) σ F' H := by
  obtain ⟨a, o, h1, h2, h3, h4, h5, h6⟩ := I.owns i x hi
  have fs : ∀ b u, F b = some u → (upd F a o) b = some u := fun b u h => by
    rw [upd_ne (fun z => by rw [z, h4] at h; cases h)]
    exact h
  refine ⟨upd F a o, I.pre0, I.ext.close h5 h2 (h3.sub h2) h6 h4, by rw [List.length_set]; exact I.len, fun j y h => ?_, fun j y h => ?_, fun j k y z b g1 g2 g3 g4 => ?_⟩
  · rcases set_own h with ⟨hj, z, hl⟩ | ⟨hj, h⟩
    · subst hj
      cases z
      exact ⟨_, h1, (h3.mono fs).rep upd_same⟩
    · obtain ⟨v, q1, q2⟩ := I.vals j y h
      exact ⟨v, q1, q2.mono fs⟩
  · rcases set_own h with ⟨_, z, _⟩ | ⟨hj, h⟩
    · cases z
    · obtain ⟨b, u, q1, q2, q3, q4, q5, q6⟩ := I.owns j y h
      have hb : b ≠ a := fun z => hj (I.apart i j x y a hi h h1 (by rw [← z]; exact q1))
      exact ⟨b, u, q1, q2, q3.mono fs, by rw [upd_ne hb]; exact q4, q5, q6⟩
  · rcases set_own g1 with ⟨_, z, _⟩ | ⟨_, g1⟩
    · cases z
    · rcases set_own g2 with ⟨_, z, _⟩ | ⟨_, g2⟩
      · cases z
      · exact I.apart j k y z b g1 g2 g3 g4
end
section
variable {X : Cx} {dc : Option Addr} {rest : List Stmt} {s : DTS} {pos pos' pn dpos : Pos}
/-- what is the def's own is handed on -/
theorem dss_freeze (i : Nat) (h : DSs X dc rest s) : DSs X dc rest (fun E ρ => ∃ x, ρ[i]? = some (.own x) ∧ s E (ρ.set i (.val x))) := by
  obtain ⟨m, t, p, r⟩ := h
  refine ⟨fun E E' ρ l ⟨x, h1, h2⟩ => ⟨x, h1, m _ _ _ l h2⟩, t, p, fun F0 H0 ρ σ F H E D' I L ⟨x, h1, h2⟩ => ?_⟩
  obtain ⟨F', J⟩ := I.freeze h1
  exact r _ _ _ _ _ _ _ _ J L h2
end
/-! ### texts: split, str(i), int(t); <= of tuples of texts; enumerate; a list unpacked -/
section
variable {X : Cx} {dc : Option Addr} {e e2 : Expr} {d d2' : DT} {pos : Pos}
/-- enumerate(t, start=k) -/
def enumD (k : Int) : List D → List D
  | [] => []
  | x :: r => .tup [.int k, x] :: enumD (k + 1) r
theorem enumD_len : ∀ (k : Int) (xs : List D), (enumD k xs).length = xs.length
  | _, [] => rfl
  | k, x :: r => by rw [enumD, List.length_cons, List.length_cons, enumD_len]
theorem enumD_get : ∀ (k : Int) (xs : List D) (i : Nat) (x : D), xs[i]? = some x → (enumD k xs)[i]? = some (.tup [.int (k + i), x])
  | _, [], _, _, h => by simp at h
  | k, y :: r, 0, x, h => by
    simp at h
    subst h
    show some (D.tup [.int k, y]) = _
    rw [show k + ((0 : Nat) : Int) = k by omega]
  | k, y :: r, i + 1, x, h => by
    have := enumD_get (k + 1) r i x (by simpa using h)
    show (enumD (k + 1) r)[i]? = _
    rw [this, show k + 1 + (i : Int) = k + ((i + 1 : Nat) : Int) by omega]
def iEnumD (k : Int) (d : DT) : DTI := fun ρ Q => d ρ fun x => asTup x fun xs => Q (enumD k xs)
end
/-! ### a net made through a name; return cls(places, ties) -/
/-! ### a classmethod with a star parameter -/
section
variable {P : Program} {w : World} {K : PySem.W.Frag} {mg : Str → Option Value} {base : Heap} {C : Addr}
/-! is_word, is_pair by data -/
def numsS : List Str := (List.range 99).map fun (i : Nat) => (Str.ofString (toString (1 + (i : Int))) : Str)
structure TieLine (z a b c : Str) (n : Int) : Prop where
  len : z.length ≤ 900
  sp : Txt.split z " " = [a, b, c]
  oa : okStr a
  ob : okStr b
  wa : wordS a = true
  wb : wordS b = true
  lt : ltS a b = true
  cn : c ∈ numsS
  int : PySem.intText? c = some n
  cl : c.length ≤ 640
end
/-- a line of ties, told -/
structure RowT where
  z : Str
  a : Str
  b : Str
  c : Str
  n : Int
def RowT.ok (r : RowT) : Prop := TieLine r.z r.a r.b r.c r.n
/-! ### a good net is one -/
theorem inP_of {ps : List Str} {x : Str} (h : x ∈ ps) : inP ps x = true := by
  unfold inP inV
  rw [List.any_eq_true]
  refine ⟨.str x, List.mem_map.mpr ⟨x, h, rfl⟩, ?_⟩
  show eqV (.str x) (.str x) = true
  first | rfl | (unfold eqV; simp) | simp
theorem okStr8 {x : Str} (h : x.length ≤ 8 ∧ ∀ c ∈ x.cps.toList, c < 128) : okStr x := ⟨by omega, h.2⟩
theorem val_le : ∀ {ts : Ties}, (∀ e ∈ ts, 1 ≤ e.2) → ∀ e ∈ ts, e.2 ≤ (ts.map (·.2)).sum
  | [], _, _, h => by cases h
  | f :: r, h, e, he => by
    have h1 := h f List.mem_cons_self
    have h2 : ∀ e ∈ r, 1 ≤ e.2 := fun e he => h e (List.mem_cons_of_mem _ he)
    have nn : ∀ {ts : Ties}, (∀ e ∈ ts, 1 ≤ e.2) → 0 ≤ (ts.map (·.2)).sum := by
      intro ts h
      induction ts with
      | nil => simp
      | cons e r ih =>
        have a := h e List.mem_cons_self
        have b := ih fun f hf => h f (List.mem_cons_of_mem _ hf)
        rw [List.map_cons, List.sum_cons]
        omega
    rw [List.map_cons, List.sum_cons]
    rcases List.mem_cons.mp he with rfl | he
    · have := nn h2
      omega
    · have := val_le h2 e he
      omega
theorem tiesB_of {n : Int} {ps : List Str} {ts : Ties} (g : GoodB n ps ts) (hw : ∀ p ∈ ps, wordS p = true) (hn : n ≤ 60) : tiesB ps ts = true := by
  unfold tiesB
  rw [Bool.and_eq_true, Bool.and_eq_true, List.all_eq_true, List.all_eq_true]
  have hs := g.sum
  refine ⟨fun e he => ?_, fun e he => ?_, decide_eq_true (by omega)⟩
  · obtain ⟨k1, k2, k3⟩ := g.keys e he
    unfold pairOk
    have e3 : ltB (.str e.1.1) (.str e.1.2) = true := k3
    have e1 : wordB (.str e.1.1) = true := hw _ k1
    have e2 : wordB (.str e.1.2) = true := hw _ k2
    rw [e1, e2, e3, inP_of k1, inP_of k2]
    rfl
  · have h1 := g.pos e he
    have h2 := val_le g.pos e he
    unfold tieOk
    rw [Bool.and_eq_true]
    refine ⟨?_, decide_eq_true h1⟩
    show decide ((if e.2 < 0 then -e.2 else e.2) < topInt) = true
    rw [if_neg (by omega)]
    have ht : (61 : Int) < topInt := by decide +kernel
    exact decide_eq_true (by omega)
theorem GoodN.b {ps : List Str} {ts : Ties} (g : GoodN ps ts) : GoodB 22 ps ts := ⟨g.keys, g.nodup, g.pos, g.sum⟩
theorem made_of {n : Int} {ps : List Str} {ts : Ties} (asc : ps.Pairwise fun a b => ltS a b = true) (hw : ∀ p ∈ ps, wordS p = true ∧ p.length ≤ 8 ∧ ∀ c ∈ p.cps.toList, c < 128) (h1 : 1 ≤ ps.length) (h9 : ps.length ≤ 9) (g : GoodB n ps ts) (hn : n ≤ 60) : MadeOk ps ts := by
  have tl := g.len
  refine ⟨by omega, g.nodup, fun p hp => okStr8 (hw p hp).2, fun e he => ?_, ?_, tiesB_of g (fun p hp => (hw p hp).1) hn⟩
  · obtain ⟨k1, k2, _⟩ := g.keys e he
    exact ⟨okStr8 (hw _ k1).2, okStr8 (hw _ k2).2⟩
  · unfold placesB
    rw [decide_eq_true h1, decide_eq_true h9, decide_eq_true (asc_nodup asc), Bool.true_and, Bool.true_and, Bool.and_true, List.all_eq_true]
    exact fun p hp => (hw p hp).1
theorem GoodN.made {ps : List Str} {ts : Ties} (g : GoodN ps ts) : MadeOk ps ts := by
  have h2 := g.two
  have h6 := g.six
  exact made_of g.asc g.words (by omega) (by omega) g.b (by omega)
theorem sortTi_perm {ts : Ties} (nd : (ts.map (·.1)).Nodup) : (sortTi ts).Perm ts := by
  have e : ts = (ts.map (·.1)).map fun k => (k, getT ts k) := by
    rw [List.map_map]
    conv => lhs; rw [← List.map_id ts]
    exact List.map_congr_left fun e he => by
      show e = (e.1, getT ts e.1)
      rw [getT_of nd he]
  unfold sortTi
  conv => rhs; rw [e]
  exact (List.mergeSort_perm _ _).map _
/-! ### loops and comprehensions of which only a property is kept -/
theorem dFor_inv {is : List Nat} {g : DTG} {body : DTS} {E : DEnds} (P : SEnv → Prop) :
    ∀ (xs : List D) (ρ : SEnv), (∀ x ∈ xs, ∀ ρ, P ρ → ∀ E2 : DEnds, (∀ ρ, P ρ → E2.nx ρ) → E2.rt = E.rt → g x fun ys => body E2 (setAllS ρ is ys)) → P ρ → (∀ ρ, P ρ → E.nx ρ) → dFor is g body E xs ρ
  | [], ρ, _, hp, q => q ρ hp
  | x :: xs, ρ, st, hp, q => st x List.mem_cons_self ρ hp _ (fun ρ' hp' => dFor_inv P xs ρ' (fun y hy => st y (List.mem_cons_of_mem _ hy)) hp' q) rfl
/-! ### a statement by data within one that is not -/
def tAny (X : Cx) (st : Stmt) : TS := fun D' σ H => ∃ t, PS X st t ∧ t D' σ H
theorem ps_any {X : Cx} {st : Stmt} : PS X st (tAny X st) := ⟨fun pins s σ H D I ⟨t, p, q⟩ => p.run pins s σ H D I q⟩
def tAnys (X : Cx) (st : List Stmt) : TS := fun D' σ H => ∃ t, PSs X st t ∧ t D' σ H
theorem pss_any {X : Cx} {st : List Stmt} : PSs X st (tAnys X st) := ⟨fun pins s σ H D I ⟨t, p, q⟩ => p.run pins s σ H D I q⟩
theorem DS.any {X : Cx} {dc : Option Addr} {st : Stmt} {s : DTS} (h : DS X dc st s) {F0 H0 F H : Hp} {ρ : SEnv} {σ : L2.St} {E : DEnds} {D' : Ends} (I : SInv dc F0 H0 ρ σ F H) (L : Link dc F0 H0 E D') (hs : s E ρ) : tAny X st D' σ H :=
  let ⟨_, t, p, r⟩ := h
  ⟨t, p, r _ _ _ _ _ _ _ _ I L hs⟩
theorem DSs.any {X : Cx} {dc : Option Addr} {st : List Stmt} {s : DTS} (h : DSs X dc st s) {F0 H0 F H : Hp} {ρ : SEnv} {σ : L2.St} {E : DEnds} {D' : Ends} (I : SInv dc F0 H0 ρ σ F H) (L : Link dc F0 H0 E D') (hs : s E ρ) : tAnys X st D' σ H :=
  let ⟨_, t, p, r⟩ := h
  ⟨t, p, r _ _ _ _ _ _ _ _ I L hs⟩
/-- nothing is frozen yet: the slots that are told -/
theorem SInv.bare {dc : Option Addr} {F H : Hp} {ρ : SEnv} {σ : L2.St} (p0 : Pre none F H) (hd : ∀ d, dc = some d → DiceAt H d ∧ F d = none) (hl : ρ.length = σ.length) (hv : ∀ (i : Nat) (x : D), ρ[i]? = some (.val x) → ∃ v, σ[i]? = some (some v) ∧ Rep dc F x v) (ho : ∀ (i : Nat) (x : D), ρ[i]? ≠ some (.own x)) : SInv dc F H ρ σ F H :=
  have p : Pre dc F H := ⟨p0.sub, hd, p0.tabs⟩
  ⟨p, .refl p, hl, hv, fun i x h => absurd h (ho i x), fun i _ x _ _ h => absurd h (ho i x)⟩
/-! ### written nets: their lines -/
instance okStr_d (z : Str) : Decidable (okStr z) := inferInstanceAs (Decidable (z.length ≤ 1000 ∧ ∀ c ∈ z.cps.toList, c < 128))
theorem asc_uniq : ∀ {l m : List Str}, l.Perm m → (l.Pairwise fun a b => ltS a b = true) → (m.Pairwise fun a b => ltS a b = true) → l = m
  | [], m, h, _, _ => h.nil_eq
  | x :: l, [], h, _, _ => absurd h.length_eq (by simp)
  | x :: l, y :: m, h, h1, h2 => by
    have hx := List.pairwise_cons.mp h1
    have hy := List.pairwise_cons.mp h2
    have e : x = y := by
      rcases List.mem_cons.mp (h.mem_iff.mp (List.mem_cons_self (a := x) (l := l))) with z | z
      · exact z
      · rcases List.mem_cons.mp (h.mem_iff.mpr (List.mem_cons_self (a := y) (l := m))) with w | w
        · exact w.symm
        · have a := hy.1 x z
          have b := hx.1 y w
          rw [ltS_asymm a] at b
          cases b
    subst e
    rw [asc_uniq ((List.perm_cons x).mp h) hx.2 hy.2]
theorem sorted_eq {ps qs : List Str} (asc : ps.Pairwise fun a b => ltS a b = true) (pm : qs.Perm ps) (srt : sortedS qs = true) : qs = ps :=
  asc_uniq pm (sorted_asc srt (pm.nodup_iff.mpr (asc_nodup asc))) asc
instance lotOk_d (ps l : List Str) : Decidable (LotOk ps l) := decidable_of_iff ((∀ x ∈ l, x ∈ ps) ∧ l.Pairwise fun a b => ltS a b = true) ⟨fun ⟨a, b⟩ => ⟨a, b⟩, fun ⟨a, b⟩ => ⟨a, b⟩⟩
/-! ### bits, kept ranges, enumerate of a tuple, sorted lots -/
section
variable {X : Cx} {dc : Option Addr}
theorem opd_fdiv : OpD X dc (binaryOp .FloorDiv) (fun x y Q => asInt x fun i => asInt y fun j => CDiv i j ∧ Q (.int (i / j))) := .ints op_fdiv fun _ _ _ => .int _
theorem opd_shr : OpD X dc (binaryOp .RShift) (fun x y Q => asInt x fun i => asInt y fun j => 0 ≤ j ∧ Q (.int (i / 2 ^ j.toNat))) := .ints op_shr fun _ _ _ => .int _
theorem opd_band : OpD X dc (binaryOp .BitAnd) (fun x y Q => asInt x fun i => asInt y fun j => Q (.int (Builtin.bitAnd i j))) := .ints0 op_and fun _ _ _ => .int _
/-- range(i, j), kept under a name -/
def intTwo (xs : List D) (Q : Int → Int → Prop) : Prop := match xs with | [.int i, .int j] => Q i j | _ => False
theorem intTwo.inv {xs : List D} {Q : Int → Int → Prop} (h : intTwo xs Q) : ∃ i j, xs = [.int i, .int j] ∧ Q i j := by
  unfold intTwo at h
  split at h
  · exact ⟨_, _, rfl, h⟩
  · exact h.elim
def asRng (x : D) (Q : Int → Int → Prop) : Prop := match x with | .rng i j => Q i j | _ => False
theorem asRng.inv {x : D} {Q : Int → Int → Prop} (h : asRng x Q) : ∃ i j, x = .rng i j ∧ Q i j := by cases x <;> first | exact ⟨_, _, rfl, h⟩ | exact h.elim
def iRngV (d : DT) : DTI := fun ρ Q => d ρ fun x => asRng x fun i j => (-(2 ^ 62) ≤ i ∧ i < 2 ^ 62 ∧ -(2 ^ 62) ≤ j ∧ j < 2 ^ 62) ∧ Q ((List.range (j - i).toNat).map fun (k : Nat) => D.int (i + k))
end
/-! enumerate(t) -/
section
variable {prog : Program} {w : World} {A : Around} {E : Value → Shared → Prop} {s : Shared}
set_option maxHeartbeats 1000000 in
theorem meets_enum1 {z : Value} {ob : Obj} {Hh : Heap → Prop} (bg : Begins z ob Hh) :
    Meets (Builtin.«enumerate.__new__» ⟨[.type "enumerate", z], []⟩) (fun _ R s => Hh s.heap ∧ R (.ok (.ret (.ref (s.heap.push ob).objs.size)))
      { s with heap := (s.heap.push ob).push ({ cls := .type "enumerate", data := .fields #[.none, .bool false, .ref s.heap.objs.size, rawInt 0, .none, .none] } : Obj) }) :=
  .of_wp fun prog w A R s hyp => by
    obtain ⟨hp, gg, dd, tt, oo⟩ := s
    obtain ⟨begun, hyp⟩ := hyp
    have hsub := sub_enumerate
    have iterq : ∀ {A' : Around} {E : Value → Shared → Prop} {Q : Value → Shared → Prop}, Q (.ref hp.objs.size) ⟨hp.push ob, gg, dd, tt, oo⟩ →
        wpAny (model prog w) A' (pyIter z) Q E ⟨hp, gg, dd, tt, oo⟩ := fun q => bg.iter prog w _ _ ⟨hp, gg, dd, tt, oo⟩ _ begun q
    wp_walk using iterq
    refine wpAny_stack_any fun _ => wpAny_pure ?_
    split
    · rename_i c _ _ _ _ _
      cases (c == Value.type "enumerate")
      · wp_walk using iterq
        exact ⟨_, rfl, hyp⟩
      · wp_walk using iterq
        exact ⟨_, rfl, hyp⟩
    · wp_walk using iterq
      exact ⟨_, rfl, hyp⟩
theorem enum1_begins {z : Value} {ob : Obj} {Hh : Heap → Prop} {Q : Value → Shared → Prop} (bg : Begins z ob Hh) (begun : Hh s.heap)
    (fin : ∀ h', IsEnum h' (s.heap.objs.size + 1) s.heap.objs.size 0 .none → h'.get? s.heap.objs.size = some ob → (∀ b o, s.heap.get? b = some o → h'.get? b = some o) → Q (.ref (s.heap.objs.size + 1)) { s with heap := h' }) :
    wpAny (model prog w) A (call (.type "enumerate") [z]) Q E s := by
  refine callType_new F.called_enumerate (by decide) (F.typeCall_enumerate_1 _) (F.newCall_enumerate_1 _)
    (fun obj => F.args_object_init_2 obj _) F.entry_enumerate_new (meets_enum1 bg) ⟨begun, ?_⟩
  have hz : (s.heap.push ob).objs.size = s.heap.objs.size + 1 := Heap.size_push ..
  show _ ∧ _
  rw [hz]
  have he : IsEnum ((s.heap.push ob).push { cls := .type "enumerate", data := .fields #[.none, .bool false, .ref s.heap.objs.size, rawInt 0, .none, .none] })
      (s.heap.objs.size + 1) s.heap.objs.size 0 .none := by
    have g := Heap.get?_push_size (s.heap.push ob)
      (o := { cls := .type "enumerate", data := .fields #[.none, .bool false, .ref s.heap.objs.size, rawInt 0, .none, .none] }) rfl
    rw [hz] at g
    exact g
  exact ⟨⟨_, he, rfl⟩, fin _ he (Heap.get?_push_of_some _ (Heap.get?_push_size _ bg.free)) fun b o x => Heap.get?_push_of_some _ (Heap.get?_push_of_some _ x)⟩
end
theorem pi_enum0 {X : Cx} {e : Expr} {ta : TA} {p pos tpos : Pos} {elts : List Expr} {kk : Nat} (hg : Gl X "enumerate") (hm : X.mg "enumerate" = none) (ha : PA X [e] ta)
    (hs : starEach [e] X.env = [(false, eval e X.env)] := by rfl) : PI X (.Tuple elts kk tpos) (.Call (.Name "enumerate" p) [e] [] pos) (fun σ H R => ta σ H fun vs H1 => ∃ a xs, vs = [.ref a] ∧ SqT X.K H1 a xs ∧ R (IteT X.K a 0) H1) := by
  refine ⟨fun pins s σ H R I h => Call_ (ld_blt I hg hm boot_enumerate (PyProof.Rows.callWith_type1 (thn (ha.run pos pins s σ H _ I h) fun us s2 ⟨vs, H2, I2, r2, q2⟩ => ?_) hs rfl))⟩
  obtain ⟨a, xs, ex, hq, q⟩ := q2
  subst ex
  cases r2 with
  | cons r rr =>
  cases rr
  cases r
  obtain ⟨its, rv, pl, hz⟩ := I2.tuple hq
  refine enum1_begins (begins_tuple a its.toArray) pl fun h' he hit hkk => wpAny_pyIter_enum he ?_
  have I3 : Inv X pins σ H2 { s2 with heap := h' } := I2.kept (t' := s2.toks) hkk
  refine ⟨s2.heap.objs.size + 1, [s2.heap.objs.size + 1, s2.heap.objs.size], _, _, H2, rfl, I3, turn_enumT a (s2.heap.objs.size + 1) s2.heap.objs.size 0, ⟨⟨.none, ?_⟩, ⟨_, hit, rfl, rfl⟩, Nat.succ_ne_self _⟩, fun b hb => ?_, q⟩
  · rw [show (0 : Int) + ((0 : Nat) : Int) = 0 by omega]
    exact he
  have e' : b = s2.heap.objs.size + 1 ∨ b = s2.heap.objs.size := by simpa using hb
  have hle : s2.heap.objs.size ≤ b := by
    rcases e' with z | z
    · rw [z]; exact Nat.le_add_right _ _
    · rw [z]; exact Nat.le_refl _
  exact I2.fpOk hle (I2.hok.fresh hle)
section
variable {X : Cx} {dc : Option Addr} {e : Expr} {d : DT} {pos : Pos}
theorem di_enum0 {p tpos : Pos} {elts : List Expr} {kk : Nat} (hg : Gl X "enumerate") (hm : X.mg "enumerate" = none) (ha : DE X dc e d) (hs : starEach [e] X.env = (false, eval e X.env) :: starEach [] X.env := by rfl) :
    DI X dc (.Tuple elts kk tpos) (.Call (.Name "enumerate" p) [e] [] pos) (iEnumD 0 d) := by
  have m := ha.mono
  obtain ⟨t, pt, rt⟩ := ha.get
  refine DI.mk' (fun ρ P P' hP q => m _ _ _ (fun x q => asTup.mono (fun xs q => hP _ q) q) q) (pi_enum0 hg hm (pa_cons pt pa_nil hs) hs) fun ρ σ F H R p s q => rt p s q fun x v F1 H1 h e1 r1 => ?_
  obtain ⟨xs, rfl, h⟩ := h.inv
  cases r1 with
  | @tup a _ vs ea ra =>
  have ha := e1.pre.sub _ _ ea
  have na : F1 a ≠ none := by rw [ea]; exact fun z => nomatch z
  refine ⟨a, vs, rfl, .of ha, h _ _ _ e1 ⟨fun i H' hi kp => ?_, fun H' kp => ?_, fun i F' H' v H'' hi pr fs kp yy => ?_⟩⟩
  · rw [enumD_len] at hi
    obtain ⟨v, hv, _⟩ := ra.get (List.getElem?_eq_getElem hi)
    exact ⟨vs, v, .of (kp _ _ na ha), hv⟩
  · rw [enumD_len, ra.length]
    exact ⟨vs, .of (kp _ _ na ha), Nat.le_refl _⟩
  · obtain ⟨T, v1, rfl, nT, rfl, h1⟩ := yy
    obtain ⟨x1, hx1, rx1⟩ := ra.get' (h1 _ (.of (kp _ _ na ha)))
    obtain ⟨e2, r2⟩ := Ext.tup2 pr nT (.int (0 + (i : Int))) (rx1.mono fs)
    exact ⟨_, _, enumD_get _ _ _ _ hx1, e2, r2⟩
end
/-! ### sorted(list) of tuples of texts, none of them empty -/
def lD (l : List Str) : PyData := .tuple (l.map PyData.str)
def ltL (x y : List Str) : Bool := PySem.W.dataLt (lD x) (lD y)
def leL (x y : List Str) : Bool := !ltL y x
theorem alikeStrs : ∀ (x y : List Str), PySem.W.alikeAll (x.map PyData.str) (y.map PyData.str) = true
  | [], _ => by simp [PySem.W.alikeAll]
  | _ :: _, [] => by simp [PySem.W.alikeAll]
  | a :: x, b :: y => by
    rw [List.map_cons, List.map_cons, PySem.W.alikeAll, alikeStrs x y]
    rfl
theorem alikeL (x y : List Str) : PySem.W.alike (lD x) (lD y) = true := by
  unfold lD
  rw [PySem.W.alike]
  exact alikeStrs x y
theorem depthStrs : ∀ (x : List Str), PyData.depthAll (x.map PyData.str) = 0
  | [] => by simp [PyData.depthAll]
  | a :: x => by
    rw [List.map_cons, PyData.depthAll, depthStrs x]
    simp [PyData.depth]
theorem depthL (x : List Str) : (lD x).depth ≤ 1 := by
  unfold lD
  rw [PyData.depth, depthStrs]
  omega
section
variable {prog : Program} {w : World} {A : Around} {s : Shared}
theorem sorts_lots {bs : List Addr} {ks : List (List Str)} (h : Paired (fun b k => ∃ as, Reads s.heap (.ref b) (lD k) as) bs ks) (hne : ∀ k ∈ ks, k ≠ []) (hu : A.units + 66 < cLine) :
    PySem.W.SortsAt prog w A s (PySem.W.dataKind s.heap (ks.map lD)) (bs.map Value.ref) ∧
    PySem.W.sortVals (PySem.W.dataKind s.heap (ks.map lD)) false (bs.map Value.ref) (bs.map Value.ref) = ((bs.zip ks).mergeSort fun x y => leL x.2 y.2).map fun x => Value.ref x.1 := by
  have hal : PySem.W.AllAlike (ks.map lD) := fun d hd d' hd' => by
    obtain ⟨x, _, rfl⟩ := List.mem_map.mp hd
    obtain ⟨y, _, rfl⟩ := List.mem_map.mp hd'
    exact alikeL x y
  have hso : PySem.W.Sortable (ks.map lD) := .inl fun d hd => by
    obtain ⟨x, hx, rfl⟩ := List.mem_map.mp hd
    cases x with
    | nil => exact absurd rfl (hne _ hx)
    | cons a r => exact ⟨.str a, r.map PyData.str, rfl⟩
  have gen1 : ∀ {bs' : List Addr} {ks' : List (List Str)}, Paired (fun b k => ∃ as, Reads s.heap (.ref b) (lD k) as) bs' ks' → PySem.W.EachIs (fun v d => ∃ as, Reads s.heap v d as) (bs'.map Value.ref) (ks'.map lD) := by
    intro bs' ks' h
    induction h with
    | nil => exact .nil
    | cons r _ ih => exact .cons r ih
  have e1 := gen1 h
  refine ⟨PySem.W.SortsAt.data e1 hal hso fun d hd => ?_, ?_⟩
  · obtain ⟨x, _, rfl⟩ := List.mem_map.mp hd
    have := depthL x
    omega
  · have hl : bs.length = ks.length := h.length
    have gen2 : ∀ {bs' : List Addr} {ks' : List (List Str)}, bs'.length = ks'.length → PySem.W.EachIs (fun (v : Value) (b : Addr × List Str) => v = Value.ref b.1) (bs'.map Value.ref) (bs'.zip ks') := by
      intro bs'
      induction bs' with
      | nil => intro ks' _; exact .nil
      | cons b r ih =>
        intro ks' hh
        cases ks' with
        | nil => simp at hh
        | cons k t => exact .cons rfl (ih (by simpa using hh))
    have e2 := gen2 hl
    have gen : ∀ {bs' : List Addr} {ks' : List (List Str)}, Paired (fun b k => ∃ as, Reads s.heap (.ref b) (lD k) as) bs' ks' → (∀ k ∈ ks', k ∈ ks) →
        PySem.W.EachIs (fun (v : Value) (b : Addr × List Str) => (PySem.W.dataKind s.heap (ks.map lD)).keyOf v = some (PySem.W.keyToks (lD b.2))) (bs'.map Value.ref) (bs'.zip ks') := by
      intro bs' ks' h hk
      induction h with
      | nil => exact .nil
      | cons r _ ih =>
        obtain ⟨as, r⟩ := r
        exact .cons (PySem.W.dataKind_some hal (List.mem_map_of_mem (hk _ (List.mem_cons_self ..))) r) (ih fun k hk' => hk k (List.mem_cons_of_mem _ hk'))
    have e4 := PySem.W.sortVals_each (κ := PySem.W.dataKind s.heap (ks.map lD)) (rev := false) (fun b : Addr × List Str => PySem.W.keyToks (lD b.2)) e2 (gen h fun _ h => h)
    have e5 : ((bs.zip ks).mergeSort fun x y => leL x.2 y.2) = (bs.zip ks).mergeSort (PySem.W.sortLe (PySem.W.dataKind s.heap (ks.map lD)).toKeyOrd false fun b : Addr × List Str => PySem.W.keyToks (lD b.2)) := rfl
    rw [e5]
    generalize (bs.zip ks).mergeSort (PySem.W.sortLe (PySem.W.dataKind s.heap (ks.map lD)).toKeyOrd false fun b : Addr × List Str => PySem.W.keyToks (lD b.2)) = L at e4
    clear e5 e2 e1 h hl
    generalize PySem.W.sortVals _ _ _ _ = M at e4
    induction e4 with
    | nil => rfl
    | cons r _ ih => rw [List.map_cons, ← ih, r]
end
theorem vals_refs : ∀ {bs : List Addr} {its : List Value}, Vals (bs.map V.ref) its → its = bs.map Value.ref
  | [], _, h => by cases h; rfl
  | b :: r, _, h => by
    cases h with
    | cons a t =>
      rw [vals_refs t, List.map_cons]
      rw [show _ = Value.ref b from a]
theorem dp_lot {K : PySem.W.Frag} {H : Hp} {b : Addr} {k : List Str} (e : H b = some (.tup (k.map V.str))) : Dp K H (.ref b) (lD k) := by
  have gen : ∀ k : List Str, DpAll K H (k.map V.str) (k.map PyData.str) := fun k => by
    induction k with
    | nil => exact .nil
    | cons a r ih => exact .cons (.str _) ih
  exact .tup (.inl (.inl e)) (gen k)
section
variable {X : Cx}
theorem call_sortedL (hu : X.A.units + 80 < cLine) : CallR X (.builtin "sorted") (fun xs H Q => ∃ (a : Addr) (bs : List Addr) (ks : List (List Str)), xs = [.ref a] ∧ SqL X.K H a (bs.map V.ref) ∧ Paired (fun b k => H b = some (.tup (k.map V.str))) bs ks ∧ (∀ k ∈ ks, k ≠ []) ∧
    ∀ (p : Addr) (L : List (Addr × List Str)), H p = none → (∀ x ∈ L, x ∈ bs.zip ks) → L.map (·.2) = ks.mergeSort leL → Q (.ref p) (upd H p (.lst ((L.map (·.1)).map V.ref)))) := by
  intro pins s σ H xs us Q I r h
  obtain ⟨a, bs, ks, rfl, hs, kat, hne, q⟩ := h
  obtain ⟨its, rv, ⟨o, n, ho, hcl, hdc, hd⟩, hz⟩ := I.list hs
  rw [List.length_map] at hz
  rw [Vals.ref1 r]
  have ei := vals_refs rv
  subst ei
  refine Calls.call_function_entry PyProof.Rows.kind_sorted PyProof.Rows.plain_sorted PyProof.Rows.entry_sorted (PyProof.Rows.args_sorted1 _) ?_
  unfold Builtin.«sorted»
  refine wpAny_bind (m := checkCount "sorted" 1 1 _) (wpAny_pure ?_)
  refine wpAny_bind (wpAny_collect_seq a (.inl rfl) ho hcl hd (fun h' hk => ?_) (by rw [List.size_toArray, List.length_map]; exact hz))
  have lb : bs.length = ks.length := kat.length
  have I1 : Inv X pins σ H { s with heap := h' } := I.kept (t' := s.toks) hk
  refine wpAny_bind (wpAny_newList ?_ (by show (bs.map Value.ref).length ≤ _; rw [List.length_map]; exact hz))
  have hoL : (h'.push (seqObj "list" (bs.map Value.ref).toArray 0)).get? h'.objs.size = some (seqObj "list" (bs.map Value.ref).toArray 0) := Heap.get?_push_size _ rfl
  show wpAny _ _ _ _ _ { s with heap := h'.push (seqObj "list" (bs.map Value.ref).toArray 0) }
  have far : ∀ b o, h'.get? b = some o → (PySem.W.sortingHeap (h'.push (seqObj "list" (bs.map Value.ref).toArray 0)) h'.objs.size (bs.map Value.ref)).get? b = some o := fun b o e =>
    PySem.W.sortingHeap_old (Nat.ne_of_lt (Heap.lt_size e)) (Heap.get?_push_of_some _ e)
  have rds : Paired (fun b (k : List Str) => ∃ as, Reads (PySem.W.sortingHeap (h'.push (seqObj "list" (bs.map Value.ref).toArray 0)) h'.objs.size (bs.map Value.ref)) (.ref b) (lD k) as) bs ks :=
    Paired.mapP kat fun b k e => by
      obtain ⟨as, rd⟩ := Dp.reads I1 (lD k) (.ref b) (.ref b) (dp_lot e) rfl
      exact ⟨as, Reads.keeps far rd⟩
  obtain ⟨S1, S2⟩ := sorts_lots (prog := X.prog) (w := X.w) (A := X.A.in1.in1) (s := { s with heap := PySem.W.sortingHeap (h'.push (seqObj "list" (bs.map Value.ref).toArray 0)) h'.objs.size (bs.map Value.ref) }) rds hne (by show X.A.units + 1 + 1 + 66 < cLine; omega)
  have hz2 : (bs.map Value.ref).length ≤ sizeLine := by rw [List.length_map]; omega
  refine wpAny_bind (wpAny_holding (wpAny_call_entry PyProof.Rows.slot_list_sort ⟨_, hoL, rfl⟩ PyProof.Rows.entry_list_sort
    (PySem.W.list_sort_vals (s := { s with heap := h'.push (seqObj "list" (bs.map Value.ref).toArray 0) }) hoL S1 hz2 ⟨_, rfl, ?_⟩) (PyProof.Rows.args_list_sort _)))
  rw [S2]
  have eL : ((bs.zip ks).mergeSort fun x y => leL x.2 y.2).map (·.2) = ks.mergeSort leL := by
    rw [PySem.W.sort_maps (s := leL) (fun x : Addr × List Str => x.2) (fun a _ b _ => rfl), zip_snd lb]
  have pL : ∀ x ∈ (bs.zip ks).mergeSort fun x y => leL x.2 y.2, x ∈ bs.zip ks := fun x hx => (List.mergeSort_perm _ _).subset hx
  have nL : ((bs.zip ks).mergeSort fun x y => leL x.2 y.2).length = ks.length := by
    rw [(List.mergeSort_perm _ _).length_eq, List.length_zip, lb, Nat.min_self]
  generalize ((bs.zip ks).mergeSort fun x y => leL x.2 y.2) = L at eL pL nL
  obtain ⟨e', he'⟩ := PyProof.Rows.sortedHeap_at (vs := bs.map Value.ref) (out := (L.map fun x => Value.ref x.1).toArray) hoL
  have new : H h'.objs.size = none := I1.hok.fresh (Nat.le_refl _)
  have rv2 : Vals ((L.map (·.1)).map V.ref) (L.map fun x => Value.ref x.1) := by
    clear pL eL nL he'
    induction L with
    | nil => exact .nil
    | cons x r ih => exact .cons rfl ih
  refine wpAny_pure ⟨_, rfl, .ref h'.objs.size, upd H h'.objs.size (.lst ((L.map (·.1)).map V.ref)), I1.laid (t' := s.toks) (fun b u e => ?_) (Nat.le_refl _)
    (show ObjOk X.prog X.w _ _ _ (.lst ((L.map (·.1)).map V.ref)) from ⟨by rw [List.length_map, List.length_map]; omega, L.map fun x => Value.ref x.1, e', rv2, he'⟩), rfl, q _ L new pL eL⟩
  have hb : b < h'.objs.size := Heap.lt_size e
  rw [PyProof.Rows.sortedHeap_old (Nat.ne_of_lt hb) (by rw [size_push']; exact Nat.lt_succ_of_lt hb)]
  exact Heap.get?_push_of_some _ e
end
section
variable {X : Cx} {dc : Option Addr}
theorem reps_lots {F : Hp} : ∀ {ks : List (List Str)} {vs : List V}, Reps dc F (ks.map lotD) vs → ∃ bs : List Addr, vs = bs.map V.ref ∧ Paired (fun b k => F b = some (.tup (k.map V.str))) bs ks
  | [], _, h => by cases h; exact ⟨[], rfl, .nil⟩
  | k :: r, _, h => by
    cases h with
    | cons a t =>
      obtain ⟨b, rfl, e⟩ := tup_strs a
      obtain ⟨bs, rfl, p⟩ := reps_lots t
      exact ⟨b :: bs, rfl, .cons e p⟩
theorem lots_reps {F : Hp} {ks : List (List Str)} {bs : List Addr} (h : Paired (fun b k => F b = some (.tup (k.map V.str))) bs ks) : Reps dc F (ks.map lotD) (bs.map V.ref) := by
  induction h with
  | nil => exact .nil
  | @cons b k _ _ r _ ih => exact .cons (.tup r (Reps.strs k)) ih
def asLots (x : D) (Q : List (List Str) → Prop) : Prop := ∃ ks : List (List Str), x = .lst (ks.map lotD) ∧ Q ks
theorem cd_sortedL (hu : X.A.units + 80 < cLine) : CallD X dc (.builtin "sorted") (arg1 fun x Q => asLots x fun ks => (∀ k ∈ ks, k ≠ []) ∧ Q (.lst ((ks.mergeSort leL).map lotD))) :=
  .one (fun x P P' hP ⟨ks, e, h, q⟩ => ⟨ks, e, h, hP _ q⟩) (call_sortedL hu) fun F H x v Q p rx h => by
    obtain ⟨ks, rfl, hne, q⟩ := h
    cases rx with
    | @lst a _ vs ef rr =>
    obtain ⟨bs, rfl, pr⟩ := reps_lots rr
    refine ⟨a, bs, ks, rfl, .of (p.sub _ _ ef), Paired.mapP pr fun b k e => p.sub _ _ e, hne, fun t L nt hL eL => ?_⟩
    have rp : Reps dc F ((ks.mergeSort leL).map lotD) ((L.map (·.1)).map V.ref) := by
      rw [← eL]
      exact lots_reps (paired_zip fun x hx => zip_mem pr x (hL x hx))
    obtain ⟨e, r⟩ := Ext.lst p nt rp
    exact q _ _ _ e r
end
/-! ### dict comprehensions: every key new -/
def dcL {κ : Type} (kf : D → Option κ) (f : D → (D → D → Prop) → Prop) : List D → List κ → List D → (List κ → List D → Prop) → Prop
  | [], ks, zs, Q => Q ks zs
  | x :: xs, ks, zs, Q => f x fun y z => ∃ k, kf y = some k ∧ k ∉ ks ∧ dcL kf f xs (ks ++ [k]) (zs ++ [z]) Q
theorem dcL_mono {κ : Type} {kf : D → Option κ} {f : D → (D → D → Prop) → Prop} (m : ∀ x P P', (∀ y z, P y z → P' y z) → f x P → f x P') : ∀ (xs : List D) (ks : List κ) (zs : List D) (P P' : List κ → List D → Prop), (∀ y z, P y z → P' y z) → dcL kf f xs ks zs P → dcL kf f xs ks zs P'
  | [], _, _, _, _, h, p => h _ _ p
  | x :: xs, _, _, _, _, h, p => m _ _ _ (fun y z ⟨k, a, b, c⟩ => ⟨k, a, b, dcL_mono m xs _ _ _ _ h c⟩) p
def dcF (is : List Nat) (g : DTG) (dk dv : DT) (vs : List Nat) (ρ : DEnv) : D → (D → D → Prop) → Prop := fun x K => g x fun ys => dk (setAllD (wipeD ρ vs) is ys) fun y => dv (setAllD (wipeD ρ vs) is ys) fun z => K y z
theorem dcF_mono {is : List Nat} {g : DTG} {dk dv : DT} {vs : List Nat} {ρ : DEnv} (mg : ∀ x P P', (∀ xs, P xs → P' xs) → g x P → g x P') (mk : ∀ ρ P P', (∀ x, P x → P' x) → dk ρ P → dk ρ P') (mv : ∀ ρ P P', (∀ x, P x → P' x) → dv ρ P → dv ρ P') :
    ∀ x P P', (∀ y z, P y z → P' y z) → dcF is g dk dv vs ρ x P → dcF is g dk dv vs ρ x P' := fun x P P' h p => mg _ _ _ (fun ys p => mk _ _ _ (fun y p => mv _ _ _ (fun z p => h _ _ p) p) p) p
def PutS (H : Hp) (a : Addr) (y v : V) (Nx : Hp → Prop) : Prop := ∃ kvs k, y = kV k ∧ H a = some (.dK kvs) ∧ kvs.length < sizeLine ∧ Nx (upd H a (.dK (putK kvs k v)))
def PutP (H : Hp) (a : Addr) (y v : V) (Nx : Hp → Prop) : Prop := ∃ H6, DPut H a y v H6 ∧ Nx H6
theorem yes_t {A N : Hp → Prop} {σ : L2.St} {H : Hp} (h : A H) : tYes σ H fun b H3 => if b = true then A H3 else N H3 := by
  show (if true = true then A H else N H)
  rw [if_pos rfl]
  exact h
/-- how the keys of a kind stand in a dict -/
structure KindOf (dc : Option Addr) (κ : Type) (kf : D → Option κ) (mk : List κ → List V → HO) (Put : Hp → Addr → V → V → (Hp → Prop) → Prop) : Prop where
  put : ∀ {F H : Hp} {D0 : Addr} {ks : List κ} {vs : List V} {y : D} {u z : V} {k : κ} {Nx : Hp → Prop}, Pre dc F H → H D0 = some (mk ks vs) → ks.length = vs.length → ks.length < sizeLine → Rep dc F y u → kf y = some k → k ∉ ks → Nx (upd H D0 (mk (ks ++ [k]) (vs ++ [z]))) → Put H D0 u z Nx
  notup : ∀ ks vs us, mk ks vs ≠ .tup us
  own : ∀ ks vs, Own (mk ks vs)
theorem putK_zip {κ : Type} [DecidableEq κ] : ∀ {ks : List κ} {vs : List V} {k : κ} {z : V}, ks.length = vs.length → k ∉ ks → putK (ks.zip vs) k z = (ks ++ [k]).zip (vs ++ [z]) := by
  intro ks vs k z hl hn
  have h1 : ((ks.zip vs).any fun kv => decide (kv.1 = k)) = false := by
    rw [List.any_eq_false]
    intro x hx
    have : x.1 ∈ ks := (List.of_mem_zip (show (x.1, x.2) ∈ _ from hx)).1
    exact fun e => hn (of_decide_eq_true e ▸ this)
  unfold putK
  rw [if_neg (by rw [h1]; exact Bool.false_ne_true), List.zip_append hl]
  rfl
section
variable {dc : Option Addr}
def keyS : D → Option Key
  | .str s => some (.inr s)
  | _ => none
theorem kind_S : KindOf dc Key keyS (fun ks vs => .dK (ks.zip vs)) PutS := by
  refine ⟨fun {F H D0 ks vs y u z k Nx} p hD hl hz r hk hn nx => ?_, fun _ _ _ h => (nomatch h), fun _ _ => trivial⟩
  cases y with
  | str s =>
    cases hk
    cases r
    refine ⟨_, .inr s, rfl, hD, ?_, ?_⟩
    · rw [List.length_zip]
      omega
    · rw [putK_zip hl hn]
      exact nx
  | _ => cases hk
theorem kind_P : KindOf dc (List Key) keyT (fun ks vs => .dT (ks.zip vs)) PutP := by
  refine ⟨fun {F H D0 ks vs y u z k Nx} p hD hl hz r hk hn nx => ?_, fun _ _ _ h => (nomatch h), fun _ _ => trivial⟩
  cases y with
  | tup xs =>
    cases r with
    | @tup b _ us eb rb =>
    have hu := Reps.keysOf rb hk
    subst hu
    refine ⟨_, DPut.t hD (p.sub _ _ eb) ?_, ?_⟩
    · rw [List.length_zip]
      omega
    · rw [putK_zip hl hn]
      exact nx
  | _ => cases hk
theorem dcg_read {κ : Type} {kf : D → Option κ} {mk : List κ → List V → HO} {Put : Hp → Addr → V → V → (Hp → Prop) → Prop} (kd : KindOf dc κ kf mk Put) {J : It} {xs : List D} {ρ : DEnv} {σ : L2.St} {F1 H1 : Hp} {is vs : List Nat} {g : DTG} {dk dv : DT} {Qe : V → Hp → Prop} {Qf : List κ → List D → Prop}
    (mg : ∀ x P P', (∀ xs, P xs → P' xs) → g x P → g x P') (mk' : ∀ ρ P P', (∀ x, P x → P' x) → dk ρ P → dk ρ P') (mv : ∀ ρ P P', (∀ x, P x → P' x) → dv ρ P → dv ρ P') (his : ∀ i ∈ is, i ∈ vs) (p1 : Pre dc F1 H1) (s : Slots dc F1 ρ σ) (it : IterOf dc F1 H1 J xs) (hz : xs.length ≤ sizeLine)
    (hl : dcL kf (dcF is g dk dv vs ρ) xs [] [] Qf) (fin : ∀ (D0 : Addr) (F' H' : Hp) ks zs ws, H1 D0 = none → Qf ks zs → Ext dc F1 H1 F' H' → F' D0 = none → H' D0 = some (mk ks ws) → ks.length = ws.length → Reps dc F' zs ws → Qe (.ref D0) H') :
    ∀ D0, H1 D0 = none → ∃ W : Nat → Nat → Hp → Prop, (∃ m, W 0 m (upd H1 D0 (mk [] []))) ∧ ∀ i m H, W i m H →
      (J.stop i H ∧ Qe (.ref D0) H) ∨ (J.go i H ∧ ∃ Nx : Hp → Prop, (∀ H', Nx H' → ∃ m', m' < m ∧ W (i + 1) m' H') ∧ ∀ x H', J.yld i H x H' → gD dc is g x (L2.wipe σ vs) H' fun σ2 H2 => L2.wipe σ2 vs = L2.wipe σ vs ∧
        tYes σ2 H2 fun b H3 => if b = true then tD dc dk σ2 H3 fun y H4 => tD dc dv σ2 H4 fun z H5 => Put H5 D0 y z Nx else Nx H3) := by
  intro D0 nD
  have fD1 : F1 D0 = none := p1.nf nD
  have dD : dc ≠ some D0 := p1.nd nD
  refine ⟨fun i m H' => m = xs.length - i ∧ i ≤ xs.length ∧ ∃ F' ks ws zs, Ext dc F1 H1 F' H' ∧ F' D0 = none ∧ H' D0 = some (mk ks ws) ∧ ks.length = ws.length ∧ Reps dc F' zs ws ∧ ks.length = i ∧ dcL kf (dcF is g dk dv vs ρ) (xs.drop i) ks zs Qf,
    ⟨_, rfl, Nat.zero_le _, F1, [], [], [], (Ext.refl p1).put nD fD1 dD, fD1, upd_same, rfl, .nil, rfl, by rw [List.drop_zero]; exact hl⟩, fun i m H0 ⟨hm, hi, F', ks, ws, zs, e, fD, hD, hlen, rr, hki, hq⟩ => ?_⟩
  rcases Nat.lt_or_ge i xs.length with lt | ge
  · refine .inr ⟨it.goes i H0 lt (e.of p1), fun H' => i + 1 ≤ xs.length ∧ ∃ F' ks ws zs, Ext dc F1 H1 F' H' ∧ F' D0 = none ∧ H' D0 = some (mk ks ws) ∧ ks.length = ws.length ∧ Reps dc F' zs ws ∧ ks.length = i + 1 ∧ dcL kf (dcF is g dk dv vs ρ) (xs.drop (i + 1)) ks zs Qf,
      fun H' ⟨a, b⟩ => ⟨xs.length - (i + 1), by omega, rfl, a, b⟩, fun v H'' y => ?_⟩
    obtain ⟨x, F2, hx, e2, rx⟩ := it.yields i F' H0 v H'' lt e.pre e.fsub (e.of p1) y
    have hxe : x = xs[i] := by rw [List.getElem?_eq_getElem lt] at hx; exact (Option.some.inj hx).symm
    rw [List.drop_eq_getElem_cons lt, ← hxe] at hq
    have nt : ∀ us, mk ks ws ≠ .tup us := kd.notup ks ws
    have hD2 : H'' D0 = some (mk ks ws) := own_kp (kd.own ks ws) (e2.keep _ _ dD hD)
    have fD2 : F2 D0 = none := e2.out fD hD nt
    refine ⟨F2, x, e2.pre, rx, mg _ _ _ (fun ys hy wl rw' => ⟨wipe_setAll his, ?_⟩) hq⟩
    have sl : Slots dc F2 (setAllD (wipeD ρ vs) is ys) (setAll (L2.wipe σ vs) is wl) := ((s.mono fun a o q => e2.fsub _ _ (e.fsub _ _ q)).wipe _).setAll is rw'
    refine yes_t (A := fun H3 => tD dc dk (setAll (L2.wipe σ vs) is wl) H3 fun y H4 => tD dc dv (setAll (L2.wipe σ vs) is wl) H4 fun z H5 => Put H5 D0 y z _) ?_
    refine ⟨_, F2, e2.pre, sl, mk' _ _ _ (fun yk hk u F3 H3 e3 r3 => ?_) hy⟩
    have hD3 : H3 D0 = some (mk ks ws) := own_kp (kd.own ks ws) (e3.keep _ _ dD hD2)
    have fD3 : F3 D0 = none := e3.out fD2 hD2 nt
    refine ⟨_, F3, e3.pre, sl.mono e3.fsub, mv _ _ _ (fun zv hv w F4 H4 e4 r4 => ?_) hk⟩
    have hD4 : H4 D0 = some (mk ks ws) := own_kp (kd.own ks ws) (e4.keep _ _ dD hD3)
    have fD4 : F4 D0 = none := e4.out fD3 hD3 nt
    obtain ⟨k, k1, k2, k3⟩ := hv
    refine kd.put (z := w) e4.pre hD4 hlen (by omega) (e4.rep r3) k1 k2 ⟨by omega, F4, ks ++ [k], ws ++ [w], zs ++ [zv], (((e.trans p1 e2).trans p1 e3).trans p1 e4).put nD fD4 dD, fD4, upd_same, ?_, (e4.reps (e3.reps (e2.reps rr))).app (.cons r4 .nil), ?_, k3⟩
    · rw [List.length_append, List.length_append, hlen]; rfl
    · rw [List.length_append, hki]; rfl
  · obtain rfl : i = xs.length := by omega
    rw [List.drop_length] at hq
    exact .inl ⟨it.stops H0 (e.of p1), fin D0 F' H0 ks zs ws nD hq e fD hD hlen rr⟩
end
def dDcS (w : DTI) (is : List Nat) (g : DTG) (dk dv : DT) (vs : List Nat) : DT := fun ρ Q => w ρ fun xs => xs.length ≤ sizeLine ∧ dcL keyS (dcF is g dk dv vs ρ) xs [] [] fun ks zs => Q (.dK ks zs)
def dDcT (w : DT) (is : List Nat) (g : DTG) (dk dv : DT) (vs : List Nat) : DT := fun ρ Q => w ρ fun x => asDT x fun ks _ => ks.length ≤ sizeLine ∧ dcL keyT (dcF is g dk dv vs ρ) (keysD ks) [] [] fun ks zs => Q (.dT ks zs)
section
variable {X : Cx} {dc : Option Addr} {kx vx tg iter : Expr} {scope : Scope} {own : List (Str × Nat)} {is : List Nat} {pos : Pos} {g : DTG} {dk dv : DT}
/-- {k: v for t in it}, the keys texts -/
theorem de_dcS {w : DTI} (hc : X.calm = true) (hN : X.N.Nodup) (hi : DI X dc tg iter w) (ok : BlkOk X.N X.env.scope scope own)
    (hg : ∀ (s : Shared) (H : Hp) (C : Addr) (cl : List (Str × Addr)) (fp : List Addr), DG (X.blk s H scope (compEnvC scope cl C X.env) fp) dc tg is g)
    (hk : ∀ (s : Shared) (H : Hp) (C : Addr) (cl : List (Str × Addr)) (fp : List Addr), DE (X.blk s H scope (compEnvC scope cl C X.env) fp) dc kx dk)
    (hv : ∀ (s : Shared) (H : Hp) (C : Addr) (cl : List (Str × Addr)) (fp : List Addr), DE (X.blk s H scope (compEnvC scope cl C X.env) fp) dc vx dv) (his : ∀ i ∈ is, i ∈ own.map (·.2))
    (hs : ∀ x, foldedSetIterable iter X.env x = pure x := by intro _; rfl) : DE X dc (.DictComp kx vx [⟨tg, iter, [], 0⟩] scope pos) (dDcS w is g dk dv (own.map (·.2))) := by
  have mw := hi.mono
  have mg := (hg {} (fun _ => none) 0 [] []).mono
  have mk := (hk {} (fun _ => none) 0 [] []).mono
  have mv := (hv {} (fun _ => none) 0 [] []).mono
  refine ⟨fun ρ P P' hP h => mw _ _ _ (fun xs h => ⟨h.1, dcL_mono (dcF_mono mg mk mv) _ _ _ _ _ (fun ks zs q => hP _ q) h.2⟩) h, _, pe_dc hc hN hi.run ok (fun s H C cl fp => (hg s H C cl fp).run) (fun _ _ _ _ _ => pts_nil) (fun s H C cl fp => (hk s H C cl fp).pe) (fun s H C cl fp => (hv s H C cl fp).pe) hs, fun ρ σ F H Q p s h => ?_⟩
  refine ⟨ρ, F, p, s, mw _ _ _ (fun xs hx J F1 H1 e1 it => ?_) h⟩
  refine dcg_read kind_S mg mk mv his e1.pre (s.mono e1.fsub) it hx.1 hx.2 fun D0 F' H' ks zs ws n0 q e fD hD hl rr => ?_
  have ec := e.close n0 hD (.inl hD) (e1.pre.nd n0) fD
  exact q _ _ _ (e1.trans p ec) (.dK upd_same hl (rr.mono fun a o z => by rw [upd_ne (fun y => by rw [y, fD] at z; cases z)]; exact z))
/-- {k: v for k in d}, d a dict under tuples that is walked, and locked meanwhile -/
theorem de_dcT {w : DT} (hc : X.calm = true) (hu : X.A.units + 1 < cLine) (hN : X.N.Nodup) (hi : DP X dc iter w) (ok : BlkOk X.N X.env.scope scope own)
    (hg : ∀ (s : Shared) (H : Hp) (C : Addr) (cl : List (Str × Addr)) (fp : List Addr), DG (X.blk s H scope (compEnvC scope cl C X.env) fp) dc tg is g)
    (hk : ∀ (s : Shared) (H : Hp) (C : Addr) (cl : List (Str × Addr)) (fp : List Addr), DE (X.blk s H scope (compEnvC scope cl C X.env) fp) dc kx dk)
    (hv : ∀ (s : Shared) (H : Hp) (C : Addr) (cl : List (Str × Addr)) (fp : List Addr), DE (X.blk s H scope (compEnvC scope cl C X.env) fp) dc vx dv) (his : ∀ i ∈ is, i ∈ own.map (·.2))
    (hs : ∀ x, foldedSetIterable iter X.env x = pure x := by intro _; rfl) : DE X dc (.DictComp kx vx [⟨tg, iter, [], 0⟩] scope pos) (dDcT w is g dk dv (own.map (·.2))) := by
  obtain ⟨mw, tw, pw, rw'⟩ := hi
  have mg := (hg {} (fun _ => none) 0 [] []).mono
  have mk := (hk {} (fun _ => none) 0 [] []).mono
  have mv := (hv {} (fun _ => none) 0 [] []).mono
  have pl := pe_dcP hc hu hN (pi_keys (tg := tg) pw) ok (fun s H C cl fp => (hg s H C cl fp).run) (fun _ _ _ _ _ => pts_nil) (fun s H C cl fp => (hk s H C cl fp).pe) (fun s H C cl fp => (hv s H C cl fp).pe) hs (pos := pos)
  refine ⟨fun ρ P P' hP h => mw _ _ _ (fun x h => asDT.mono (fun ks vs h => ⟨h.1, dcL_mono (dcF_mono mg mk mv) _ _ _ _ _ (fun ks zs q => hP _ q) h.2⟩) h) h, _, pe_or2 (pe_lock pl) pl, fun ρ σ F H Q p s h => ?_⟩
  obtain ⟨x, v, hx, rx, gt⟩ := rw' ρ σ F _ s h
  obtain ⟨ks, vs, rfl, hz, hl⟩ := hx.inv
  have hl1 : (keysD ks).length ≤ sizeLine := by unfold keysD; rw [List.length_map]; exact hz
  cases rx with
  | @dT a _ _ ws ef l rr =>
    have aF : ∀ {F' : Hp} {D0 : Addr} {Hx : Hp}, F' D0 = none → (∀ b o, F b = some o → F' b = some o) → D0 ≠ a := fun fD fs z => by
      subst z
      rw [fs _ _ ef] at fD
      cases fD
    rcases p.sub _ _ ef with hd | ⟨o, hd⟩
    · refine .inl ⟨_, _, hd, trivial, fun od => gt _ _ (p.lock ef hd) ⟨_, od, rfl, .inr ⟨_, upd_same, ?_⟩⟩⟩
      refine dcg_read (Qe := fun v H' => H' a = some (.frz od (.dT (ks.zip ws))) ∧ Q v (upd H' a (.dT (ks.zip ws)))) kind_P mg mk mv his (p.lock ef hd) s (iter_keysT ef upd_same l) hl1 hl fun D0 F' H' ks' zs ws' n0 q e fD hD hl' rr' => ?_
      have ec := e.close n0 hD (.inl hD) ((p.lock ef hd).nd n0) fD
      refine ⟨e.of (p.lock ef hd) _ _ (by rw [ef]; exact fun z => nomatch z) upd_same, q _ _ _ (Ext.unlock p ef hd ec) (.dT upd_same hl' (rr'.mono fun b u z => by rw [upd_ne (fun y => by rw [y, fD] at z; cases z)]; exact z))⟩
    · refine .inr (gt _ _ p ⟨_, o, rfl, .inr ⟨_, hd, ?_⟩⟩)
      refine dcg_read (Qe := Q) kind_P mg mk mv his p s (iter_keysT ef hd l) hl1 hl fun D0 F' H' ks' zs ws' n0 q e fD hD hl' rr' => ?_
      have ec := e.close n0 hD (.inl hD) (p.nd n0) fD
      exact q _ _ _ ec (.dT upd_same hl' (rr'.mono fun b u z => by rw [upd_ne (fun y => by rw [y, fD] at z; cases z)]; exact z))
end
/-! ### equal lots; in a tuple of lots -/
theorem lay_strs : ∀ {l : List Str}, (∀ x ∈ l, PyData.strOk x = true) → PyData.canLayAll0 (l.map PyData.str) = true
  | [], _ => by simp [PyData.canLayAll0]
  | x :: r, h => by
    rw [List.map_cons, PyData.canLayAll0, lay_strs fun y hy => h y (List.mem_cons_of_mem _ hy), PyData.canLay0, h x (List.mem_cons_self ..)]
    rfl
theorem shaped_lot {l : List Str} (h : ∀ x ∈ l, PyData.strOk x = true) : SeqAt.shaped (lD l) = true := by
  unfold SeqAt.shaped
  rw [decide_eq_true (by have := depthL l; omega), Bool.and_true]
  unfold lD
  rw [PyData.canLay0]
  exact lay_strs h
theorem lay_lots : ∀ {ls : List (List Str)}, (∀ l ∈ ls, ∀ x ∈ l, PyData.strOk x = true) → PyData.canLayAll0 (ls.map lD) = true
  | [], _ => by simp [PyData.canLayAll0]
  | l :: r, h => by
    rw [List.map_cons, PyData.canLayAll0, lay_lots fun y hy => h y (List.mem_cons_of_mem _ hy)]
    have := shaped_lot (h l (List.mem_cons_self ..))
    rw [SeqAt.canLay_of_shaped this]
    rfl
theorem depth_lots : ∀ (ls : List (List Str)), PyData.depthAll (ls.map lD) ≤ 1
  | [] => by simp [PyData.depthAll]
  | l :: r => by
    rw [List.map_cons, PyData.depthAll]
    have := depthL l
    have := depth_lots r
    omega
theorem shaped_lotsL {ls : List (List Str)} (h : ∀ l ∈ ls, ∀ x ∈ l, PyData.strOk x = true) : SeqAt.shaped (.list (ls.map lD)) = true := by
  unfold SeqAt.shaped
  rw [PyData.canLay0, lay_lots h, Bool.true_and, PyData.depth]
  exact decide_eq_true (by have := depth_lots ls; omega)
theorem eqv_strs : ∀ (a b : List Str), PyData.eqvAll (a.map PyData.str) (b.map PyData.str) = decide (a = b)
  | [], [] => by simp [PyData.eqvAll]
  | [], _ :: _ => by simp [PyData.eqvAll]
  | _ :: _, [] => by simp [PyData.eqvAll]
  | x :: a, y :: b => by
    rw [List.map_cons, List.map_cons, PyData.eqvAll, eqv_strs a b, PyData.eqv]
    by_cases h : x = y
    · subst h
      by_cases g : a = b
      · subst g; simp
      · simp [g]
    · simp [h]
theorem eqv_lot (a b : List Str) : PyData.eqv (lD a) (lD b) = decide (a = b) := by
  unfold lD
  rw [PyData.eqv]
  exact eqv_strs a b
theorem eqv_lots : ∀ (a b : List (List Str)), PyData.eqvAll (a.map lD) (b.map lD) = decide (a = b)
  | [], [] => by simp [PyData.eqvAll]
  | [], _ :: _ => by simp [PyData.eqvAll]
  | _ :: _, [] => by simp [PyData.eqvAll]
  | x :: a, y :: b => by
    rw [List.map_cons, List.map_cons, PyData.eqvAll, eqv_lots a b, eqv_lot]
    by_cases h : x = y
    · subst h
      by_cases g : a = b
      · subst g; simp
      · simp [g]
    · simp [h]
theorem eqv_lotsL (a b : List (List Str)) : PyData.eqv (.list (a.map lD)) (.list (b.map lD)) = decide (a = b) := by
  rw [PyData.eqv]
  exact eqv_lots a b
theorem py_lot (l : List Str) : pyD (lotD l) = some (lD l) := by
  unfold lotD lD
  rw [pyD]
  have : ∀ l : List Str, pyDs (l.map D.str) = some (l.map PyData.str) := fun l => by
    induction l with
    | nil => rfl
    | cons x r ih =>
      rw [List.map_cons, pyDs, ih]
      rfl
  rw [this]
  rfl
theorem py_lots : ∀ (ls : List (List Str)), pyDs (ls.map lotD) = some (ls.map lD)
  | [] => rfl
  | l :: r => by
    rw [List.map_cons, pyDs, py_lot, py_lots r]
    rfl
theorem asRng_rng {i j : Int} {Q : Int → Int → Prop} : asRng (.rng i j) Q = Q i j := rfl
theorem intTwo_two {i j : Int} {Q : Int → Int → Prop} : intTwo [.int i, .int j] Q = Q i j := rfl
/-! ### masks of lots -/
def allS (l : List Str) : List (List Str) := l.foldl (fun f p => f ++ f.map (· ++ [p])) [[]]
theorem allS_snoc (l : List Str) (p : Str) : allS (l ++ [p]) = allS l ++ (allS l).map (· ++ [p]) := by
  unfold allS
  rw [List.foldl_append]
  rfl
theorem snoc_ind {α : Type} {P : List α → Prop} (h0 : P []) (h1 : ∀ l p, P l → P (l ++ [p])) : ∀ l, P l := by
  intro l
  have : ∀ r : List α, P r.reverse := fun r => by
    induction r with
    | nil => exact h0
    | cons a r ih => rw [List.reverse_cons]; exact h1 _ _ ih
  have := this l.reverse
  rwa [List.reverse_reverse] at this
theorem allS_len : ∀ l : List Str, (allS l).length = 2 ^ l.length := snoc_ind rfl fun l p ih => by
  rw [allS_snoc, List.length_append, List.length_map, ih, List.length_append, List.length_singleton, Nat.pow_succ]
  omega
def lotA : List Str → Nat → Nat → List Str
  | [], _, _ => []
  | p :: r, k, m => if m.testBit k = true then p :: lotA r (k + 1) m else lotA r (k + 1) m
theorem lotA_snoc (p : Str) (m : Nat) : ∀ (l : List Str) (k : Nat), lotA (l ++ [p]) k m = lotA l k m ++ (if m.testBit (k + l.length) = true then [p] else [])
  | [], k => by simp [lotA]
  | q :: r, k => by
    have ih := lotA_snoc p m r (k + 1)
    rw [show k + 1 + r.length = k + (r.length + 1) by omega] at ih
    rw [List.cons_append, lotA, lotA, List.length_cons, ih]
    by_cases c : m.testBit k = true
    · rw [if_pos c, if_pos c, List.cons_append]
    · rw [if_neg c, if_neg c]
theorem lotA_congr {m n : Nat} : ∀ (l : List Str) (k : Nat), (∀ i, i < k + l.length → m.testBit i = n.testBit i) → lotA l k m = lotA l k n
  | [], _, _ => rfl
  | q :: r, k, h => by
    rw [List.length_cons] at h
    rw [lotA, lotA, h k (by omega), lotA_congr r (k + 1) fun i hi => h i (by omega)]
theorem lot_at : ∀ (l : List Str) (m : Nat), m < 2 ^ l.length → (allS l)[m]? = some (lotA l 0 m) := snoc_ind (fun m h => by
  obtain rfl : m = 0 := by simpa using h
  rfl) fun l p ih m h => by
  rw [allS_snoc, lotA_snoc, Nat.zero_add]
  rw [List.length_append, List.length_singleton, Nat.pow_succ] at h
  have hl := allS_len l
  by_cases c : m < 2 ^ l.length
  · rw [List.getElem?_append_left (by omega), ih m c, Nat.testBit_lt_two_pow c]
    simp
  · obtain ⟨j, rfl⟩ : ∃ j, m = 2 ^ l.length + j := ⟨m - 2 ^ l.length, by omega⟩
    rw [List.getElem?_append_right (by omega), hl, Nat.add_sub_cancel_left, List.getElem?_map, ih j (by omega), Nat.testBit_two_pow_add_eq, Nat.testBit_lt_two_pow (by omega)]
    have : lotA l 0 (2 ^ l.length + j) = lotA l 0 j := lotA_congr l 0 fun i hi => Nat.testBit_two_pow_add_gt (by omega) _
    rw [this]
    rfl
theorem mem_lotA {x : Str} {m : Nat} : ∀ {l : List Str} {k : Nat}, x ∈ lotA l k m ↔ ∃ i, l[i]? = some x ∧ m.testBit (k + i) = true
  | [], _ => by simp [lotA]
  | q :: r, k => by
    have ih := mem_lotA (x := x) (m := m) (l := r) (k := k + 1)
    have key : (x ∈ lotA r (k + 1) m) ↔ ∃ i, (q :: r)[i + 1]? = some x ∧ m.testBit (k + (i + 1)) = true := by
      rw [ih]
      constructor
      · rintro ⟨i, h1, h2⟩
        exact ⟨i, by simpa using h1, by rw [show k + (i + 1) = k + 1 + i by omega]; exact h2⟩
      · rintro ⟨i, h1, h2⟩
        exact ⟨i, by simpa using h1, by rw [show k + 1 + i = k + (i + 1) by omega]; exact h2⟩
    rw [lotA]
    by_cases c : m.testBit k = true
    · rw [if_pos c, List.mem_cons, key]
      constructor
      · rintro (h | ⟨i, h⟩)
        · exact ⟨0, by simp [h], c⟩
        · exact ⟨i + 1, h⟩
      · rintro ⟨i, h1, h2⟩
        cases i with
        | zero => left; simpa using h1.symm
        | succ i => right; exact ⟨i, h1, h2⟩
    · rw [if_neg c, key]
      constructor
      · rintro ⟨i, h⟩
        exact ⟨i + 1, h⟩
      · rintro ⟨i, h1, h2⟩
        cases i with
        | zero => exact absurd h2 c
        | succ i => exact ⟨i, h1, h2⟩
theorem lotA_sub (m : Nat) : ∀ (l : List Str) (k : Nat), (lotA l k m).Sublist l
  | [], _ => .slnil
  | q :: r, k => by
    rw [lotA]
    split
    · exact (lotA_sub m r (k + 1)).cons₂ q
    · exact (lotA_sub m r (k + 1)).cons q
/-- the lots of l: l's sublists -/
theorem mem_allS' : ∀ (l x : List Str), x ∈ allS l ↔ x.Sublist l := snoc_ind (fun x => by
  show x ∈ [[]] ↔ _
  simp) fun l p ih x => by
  rw [allS_snoc, List.mem_append, List.mem_map]
  constructor
  · rintro (h | ⟨y, h, rfl⟩)
    · exact ((ih x).mp h).trans (List.sublist_append_left _ _)
    · exact ((ih y).mp h).append (List.Sublist.refl _)
  · intro h
    obtain ⟨a, b, rfl, h1, h2⟩ := List.sublist_append_iff.mp h
    cases h2 with
    | cons _ h2 => cases h2; left; rw [List.append_nil]; exact (ih a).mpr h1
    | cons_cons _ h2 => cases h2; right; exact ⟨a, (ih a).mpr h1, rfl⟩
theorem mem_allS {l x : List Str} : x ∈ allS l ↔ x.Sublist l := mem_allS' l x
def mm : List Str → List Str → Nat
  | [], _ => 0
  | p :: r, l => (if p ∈ l then 1 else 0) + 2 * mm r l
theorem mm_bit (l : List Str) : ∀ (qs : List Str) (i : Nat), (mm qs l).testBit i = (qs[i]?.any fun x => decide (x ∈ l))
  | [], i => by simp [mm]
  | p :: r, 0 => by
    rw [mm, Nat.testBit_zero]
    by_cases c : p ∈ l
    · simp [c]
    · simp [c]
  | p :: r, i + 1 => by
    rw [mm, Nat.testBit_succ]
    have : ((if p ∈ l then 1 else 0) + 2 * mm r l) / 2 = mm r l := by split <;> omega
    rw [this, mm_bit l r i]
    simp
theorem mm_lt (l : List Str) : ∀ qs : List Str, mm qs l < 2 ^ qs.length
  | [] => by simp [mm]
  | p :: r => by
    have := mm_lt l r
    rw [mm, List.length_cons, Nat.pow_succ]
    split <;> omega
/-! whole numbers that are masks -/
theorem bit_ext {a b : Nat} (h : ∀ i, a.testBit i = b.testBit i) : a = b := Nat.eq_of_testBit_eq h
local macro_rules | `(tactic| walk_at "dred3") => `(tactic| try simp only [eq_self, iEnumD, iRngV, asRng_rng, intTwo_two, dDcS, dDcT, sRet, sSet, sIf, sSeq, sExpr, sAsg, sPar2, dCall, dCons, dNil, dLc, dLcK, dLc2, iSeq, iZipD, dVar, dB, d2, dC, dTup, dLst, dAnd, dOr, dNot, dAndV, dOrV, dNotV, dIf, dYes, dFn, dPr, dMt, dFld, retE, visD, startS, Sl.seen, setAllS,
  lcF, lcF2, gN, gsN, gsC, setAllD, wipeD, arg1_one, arg2_two, asSeq_lst, asSeq_tup, asSeq_lot, asTup_tup, asTup_lot, asLst_lst, asInt_int, asStr_str, asBl_bl, asIns_ins, asIns_made, asDT_dT, asDT_ties, asD_dK, asD_dT, asD_ties, pr2_two, onSome_some, dSub_lst, dSub_tup, dSub_dT, dSub_dK, dSub_pair0, dSub_pair1, dSub_ties, dSub_netp, dSub_nett, dGetO_pair, dGet_ties,
  dEq_int, dEq_str, dEq_bl, dNe_int, dNe_str, dNe_bl, dLt_str, dLt_int, dAdd_int, dAdd_lst, dAdd_tup, onZip_tup, onZip_lst, atI_two0, atI_two1, gTupD_tup, fld_places, fld_ties, look_pl, look_ti, dInA_strT, dInA_strL, dInA_strTup,
  List.map_cons, List.map_nil, List.length_cons, List.length_nil, List.replicate, List.cons_append, List.nil_append, List.append_nil, List.getElem?_cons_zero, List.getElem?_cons_succ, List.set_cons_zero, List.set_cons_succ, Nat.reduceAdd, Nat.reduceSub, Bool.false_xor, Bool.true_xor, Nat.sub_self, Nat.add_one_sub_one, reduceIte, if_true, if_false, true_and, and_true])
/-! ### masks, by data -/
abbrev s_has_place : Stmt := topS 2
theorem sc_has_place : FnScope ["mask", "at"] ["mask", "at"] (defScope s_has_place) := ⟨rfl, rfl, rfl, by decide +kernel, rfl, by decide +kernel, by decide +kernel⟩
section
variable {P : Program} {w : World} {K : PySem.W.Frag} {mg : Str → Option Value} {base : Heap} {C : Addr}
def spHasPlace : DSp := fun xs Q => ∃ m a : Nat, xs = [.int m, .int a] ∧ Q (.bl (m.testBit a))
theorem has_bit (m a : Nat) : decide (Builtin.bitAnd ((m : Int) / 2 ^ (a : Int).toNat) 1 = 1) = m.testBit a := by
  rw [Int.toNat_natCast, bitAnd_m1, Nat.testBit_eq_decide_div_mod_eq]
  have e : (m : Int) / 2 ^ a % 2 = ((m / 2 ^ a % 2 : Nat) : Int) := by
    rw [Int.natCast_emod, Int.natCast_ediv, Int.natCast_pow]
    rfl
  rw [e]
  by_cases c : m / 2 ^ a % 2 = 1
  · rw [c]; rfl
  · rw [decide_eq_false c, decide_eq_false (by omega)]
theorem ok_has_place {f : Addr} {fd : FuncData} {k : Nat} (F : Fun K "has_place" "has_place" s_has_place f fd)  : FnOk P w K mg base CX0 (k + 1) f fd ["mask", "at"] (spD spHasPlace) := by
  refine fnD_ok F sc_has_place (fun xs Q h => ?_) (fun dc cdv A outer s0 H E hr =>
    (dss_one (ds_ret (de_cmp (opd_eq (hr.units)) (de_op opd_band (de_op opd_shr (de_var 0) (de_var 1)) de_int) de_int (nomark _))))) (fun xs Q h => ?_)
  · obtain ⟨m, a, rfl, _⟩ := h; rfl
  · obtain ⟨m, a, rfl, q⟩ := h
    walk_at "dred3"
    refine ⟨by omega, ?_⟩
    rw [has_bit]
    exact q
theorem enum_strs : ∀ (k : Nat) (l : List Str), enumD (k : Int) (l.map D.str) = (l.zipIdx k).map fun p => D.tup [.int (p.2 : Int), .str p.1]
  | _, [] => rfl
  | k, x :: r => by
    rw [List.map_cons, enumD, List.zipIdx_cons, List.map_cons, ← enum_strs (k + 1) r]
    rfl
theorem enum0_strs (l : List Str) : enumD 0 (l.map D.str) = (l.zipIdx).map fun p => D.tup [.int (p.2 : Int), .str p.1] := enum_strs 0 l
end
/-! ### all cuts, by data -/
abbrev s_Net_degree : Stmt := inClass (topS 36) 11
theorem sc_Net_degree : FnScope ["self", "place", "pair"] ["self", "place"] (defScope s_Net_degree) := ⟨rfl, rfl, rfl, by decide +kernel, rfl, by decide +kernel, by decide +kernel⟩
abbrev s_Net_degrees : Stmt := inClass (topS 36) 5
theorem sc_Net_degrees : FnScope ["self", "place"] ["self"] (defScope s_Net_degrees) := ⟨rfl, rfl, rfl, by decide +kernel, rfl, by decide +kernel, by decide +kernel⟩
abbrev s_Net_ties : Stmt := inClass (topS 36) 3
theorem sc_Net_ties : FnScope ["self", "pair"] ["self"] (defScope s_Net_ties) := ⟨rfl, rfl, rfl, by decide +kernel, rfl, by decide +kernel, by decide +kernel⟩
abbrev s_all_cuts : Stmt := topS 3
theorem sc_all_cuts : FnScope ["net", "ties", "degrees", "cuts", "at", "place", "between", "other", "many", "ahead"] ["net"] (defScope s_all_cuts) := ⟨rfl, rfl, rfl, by decide +kernel, rfl, by decide +kernel, by decide +kernel⟩
section
variable {P : Program} {w : World} {K : PySem.W.Frag} {mg : Str → Option Value} {base : Heap} {C : Addr}
def touches (p : Str) (k : Str × Str) : Bool := decide (p ∈ [k.1, k.2])
def degT (ts : Ties) (p : Str) : Int := ((ts.filter fun e => touches p e.1).map (·.2)).sum
def spDegree (C : Addr) : DSp := fun xs Q => ∃ ps ts p, xs = [madeD C ps ts, .str p] ∧ p ∈ ps ∧ ts.length ≤ 1000 ∧ (ts.map (·.1)).Nodup ∧ Q (.int (degT ts p))
theorem ok_Net_degree {f : Addr} {fd : FuncData} {k : Nat} (F : Fun K "degree" "Net.degree" s_Net_degree f fd) (c0 : Cls K C) (n_ties : NoAttr K C "_ties") (m_sum : mg "sum" = none) (Mt__check_place : DMt P w K mg base k C "_check_place" [] (spCheckPlace C)) : FnOk P w K mg base CX0 (k + 1) f fd ["self", "place"] (spD (spDegree C)) := by
  refine fnD_ok F sc_Net_degree (fun xs Q h => ?_) (fun dc cdv A outer s0 H E hr =>
    (dss_cons (ds_expr (de_meth Mt__check_place hr (Nat.le_refl _) (de_var 0) (da_cons (de_var 1) da_nil)))
      (dss_one (ds_ret (de_callB (cd_sum rfl) (by rfl) m_sum (by decide +kernel) (da_cons (de_lcK (own := [("pair", 2)]) rfl sc_Net_degree.nd (dp_fld c0 n_ties (dp_var 0)) (blkOk_by (N := ["self", "place", "pair"]) (sc := defScope s_Net_degree) (by decide +kernel)) (fun _ _ _ _ _ => (dg_name (i := 2) sc_Net_degree.nd rfl (Or.inl rfl))) (fun _ _ _ _ _ => (dts_one (dc_cmp (opd_inA (hu_of hr)) (de_var 1) (de_var 2) (by rfl)))) (fun _ _ _ _ _ => (de_sub (hu_of hr) (dp_fld c0 n_ties (dp_var 0)).de (de_var 2))) (by decide)) da_nil)))))) (fun xs Q h => ?_)
  · obtain ⟨ps, ts, p, rfl, _⟩ := h; rfl
  · obtain ⟨ps, ts, p, rfl, hp, ht, nd, q⟩ := h
    walk_at "dred3"
    refine ⟨by decide, ⟨ps, ts, p, rfl, hp, ?_⟩⟩
    refine ⟨by rw [List.length_map]; exact Nat.le_of_lt (small1000 ht), ?_⟩
    rw [keysD_ties]
    refine lcL_filter (g := fun e => D.int e.2) (c := fun e => touches p e.1) (fun e he K hk => ?_) ?_
    · walk_at "dred3"
      show dInA false (.str p) (.tup ([e.1.1, e.1.2].map D.str)) _
      rw [dInA_strT]
      walk_at "dred3"
      rw [look_at nd he]
      exact hk
    · have e : (ts.filter fun e => touches p e.1).map (fun e => D.int e.2) = ((ts.filter fun e => touches p e.1).map (·.2)).map D.int := by rw [List.map_map]; rfl
      rw [e]
      exact asInts.of q
theorem dcL_each {α κ : Type} {kf : D → Option κ} {f : D → (D → D → Prop) → Prop} {h : α → D} {gk : α → D} {gv : α → D} {kk : α → κ} (hkf : ∀ a, kf (gk a) = some (kk a)) : ∀ {xs : List α} {ks : List κ} {zs : List D} {Q : List κ → List D → Prop},
    (∀ a ∈ xs, ∀ K : D → D → Prop, K (gk a) (gv a) → f (h a) K) → (ks ++ xs.map kk).Nodup → Q (ks ++ xs.map kk) (zs ++ xs.map gv) → dcL kf f (xs.map h) ks zs Q
  | [], ks, zs, Q, _, _, q => by
    simpa [dcL] using q
  | x :: r, ks, zs, Q, hf, nd, q => by
    rw [List.map_cons, dcL]
    refine hf x List.mem_cons_self _ ⟨kk x, hkf x, fun z => ?_, ?_⟩
    · rw [List.map_cons, List.nodup_append] at nd
      exact nd.2.2 _ z _ List.mem_cons_self rfl
    · refine dcL_each hkf (fun a ha => hf a (List.mem_cons_of_mem _ ha)) ?_ ?_
      · rw [List.append_assoc]
        exact nd
      · rw [List.append_assoc, List.append_assoc]
        exact q
def spTies (C : Addr) : DSp := fun xs Q => ∃ ps ts, xs = [madeD C ps ts] ∧ ts.length ≤ 1000 ∧ (ts.map (·.1)).Nodup ∧ Q (tiesD ts)
theorem ok_Net_ties {f : Addr} {fd : FuncData} {k : Nat} (F : Fun K "ties" "Net.ties" s_Net_ties f fd) (c0 : Cls K C) (n_ties : NoAttr K C "_ties") : FnOk P w K mg base CX0 (k + 1) f fd ["self"] (spD (spTies C)) := by
  refine fnD_ok F sc_Net_ties (fun xs Q h => ?_) (fun dc cdv A outer s0 H E hr =>
    (dss_one (ds_ret (de_dcT (own := [("pair", 1)]) rfl (hu_of hr) sc_Net_ties.nd (dp_fld c0 n_ties (dp_var 0)) (blkOk_by (N := ["self", "pair"]) (sc := defScope s_Net_ties) (by decide +kernel)) (fun _ _ _ _ _ => (dg_name (i := 1) sc_Net_ties.nd rfl (Or.inl rfl))) (fun _ _ _ _ _ => (de_var 1)) (fun _ _ _ _ _ => (de_sub (hu_of hr) (dp_fld c0 n_ties (dp_var 0)).de (de_var 1))) (by decide))))) (fun xs Q h => ?_)
  · obtain ⟨ps, ts, rfl, _⟩ := h; rfl
  · obtain ⟨ps, ts, rfl, ht, nd, q⟩ := h
    walk_at "dred3"
    refine ⟨by rw [List.length_map]; exact Nat.le_of_lt (small1000 ht), ?_⟩
    rw [keysD_ties]
    refine dcL_each (gk := fun e => pairD e.1) (gv := fun e => D.int e.2) (kk := fun e => kP e.1) (fun e => rfl) (fun e he K hk => ?_) ?_ ?_
    · unfold dcF
      walk_at "dred3"
      rw [look_at nd he]
      exact hk
    · rw [List.nil_append]
      have e : ts.map (fun e => kP e.1) = (ts.map (·.1)).map kP := by rw [List.map_map]; rfl
      rw [e]
      exact List.Pairwise.map _ (fun a b hab z => hab (kP_inj' z)) nd
    · rw [List.nil_append, List.nil_append]
      exact q
def degsD (ps : List Str) (ts : Ties) : D := .dK (ps.map Sum.inr) (ps.map fun p => .int (degT ts p))
def spDegrees (C : Addr) : DSp := fun xs Q => ∃ ps ts, xs = [madeD C ps ts] ∧ ps.length ≤ 1000 ∧ ps.Nodup ∧ ts.length ≤ 1000 ∧ (ts.map (·.1)).Nodup ∧ Q (degsD ps ts)
theorem ok_Net_degrees {f : Addr} {fd : FuncData} {k : Nat} (F : Fun K "degrees" "Net.degrees" s_Net_degrees f fd) (c0 : Cls K C) (n_places : NoAttr K C "_places") (Mt_degree : DMt P w K mg base k C "degree" [] (spDegree C)) : FnOk P w K mg base CX0 (k + 1) f fd ["self"] (spD (spDegrees C)) := by
  refine fnD_ok F sc_Net_degrees (fun xs Q h => ?_) (fun dc cdv A outer s0 H E hr =>
    (dss_one (ds_ret (de_dcS (own := [("place", 1)]) rfl sc_Net_degrees.nd (di_seq (dp_fld c0 n_places (dp_var 0)).de) (blkOk_by (N := ["self", "place"]) (sc := defScope s_Net_degrees) (by decide +kernel)) (fun _ _ _ _ _ => (dg_name (i := 1) sc_Net_degrees.nd rfl (Or.inl rfl))) (fun _ _ _ _ _ => (de_var 1)) (fun _ _ _ _ _ => (de_meth Mt_degree hr (Nat.le_refl _) (de_var 0) (da_cons (de_var 1) da_nil))) (by decide))))) (fun xs Q h => ?_)
  · obtain ⟨ps, ts, rfl, _⟩ := h; rfl
  · obtain ⟨ps, ts, rfl, hp, np, ht, nd, q⟩ := h
    walk_at "dred3"
    refine ⟨by rw [List.length_map]; exact Nat.le_of_lt (small1000 hp), ?_⟩
    refine dcL_each (gk := D.str) (gv := fun p => D.int (degT ts p)) (kk := fun p => (Sum.inr p : Key)) (fun e => rfl) (fun p hm K hk => ?_) ?_ ?_
    · unfold dcF
      walk_at "dred3"
      exact ⟨by decide, ⟨ps, ts, p, rfl, hm, ht, nd, hk⟩⟩
    · rw [List.nil_append]
      exact List.Pairwise.map _ (fun a b hab z => hab (Sum.inr.inj z)) np
    · rw [List.nil_append, List.nil_append]
      exact q
end
section
variable {P : Program} {w : World} {K : PySem.W.Frag} {mg : Str → Option Value} {base : Heap} {C : Addr}
theorem dFor_at {α : Type} {h : α → D} {is : List Nat} {g : DTG} {body : DTS} {E : DEnds} {xs : List α} (P : List α → SEnv → Prop)
    (st : ∀ d x r, xs = d ++ x :: r → ∀ ρ, P d ρ → ∀ E2 : DEnds, (∀ ρ, P (d ++ [x]) ρ → E2.nx ρ) → E2.rt = E.rt → g (h x) fun ys => body E2 (setAllS ρ is ys)) (q : ∀ ρ, P xs ρ → E.nx ρ) :
    ∀ (rest done : List α) (ρ : SEnv), xs = done ++ rest → P done ρ → dFor is g body E (rest.map h) ρ
  | [], done, ρ, e, hp => q ρ (by rw [e, List.append_nil]; exact hp)
  | x :: r, done, ρ, e, hp => st done x r e ρ hp _ (fun ρ' hp' => dFor_at P st q r (done ++ [x]) ρ' (by rw [e, List.append_assoc]; rfl) hp') rfl
theorem dFor_go {α : Type} {h : α → D} {is : List Nat} {g : DTG} {body : DTS} {E : DEnds} {xs : List α} {ρ : SEnv} (P : List α → SEnv → Prop) (h0 : P [] ρ)
    (st : ∀ d x r, xs = d ++ x :: r → ∀ ρ, P d ρ → ∀ E2 : DEnds, (∀ ρ, P (d ++ [x]) ρ → E2.nx ρ) → E2.rt = E.rt → g (h x) fun ys => body E2 (setAllS ρ is ys)) (q : ∀ ρ, P xs ρ → E.nx ρ) : dFor is g body E (xs.map h) ρ :=
  dFor_at P st q xs [] ρ rfl h0
theorem cut_take (xs : List D) (n : Nat) (h : n ≤ xs.length) : cutD xs none (some (n : Int)) = xs.take n := by
  unfold cutD
  rw [HT.sIx_none, HT.sIx_nat, Nat.min_eq_left h, List.drop_zero, Nat.sub_zero]
theorem cutT_touch {ps : List Str} {ts : Ties} (g : MG ps ts) (p : Str) : cutT ts [p] = degT ts p := by
  unfold cutT degT
  congr 1
  congr 1
  refine List.filter_congr fun e he => ?_
  have h := (g.keys e he).2.2
  have hne : e.1.1 ≠ e.1.2 := fun z => by rw [z] at h; have := ltS_asymm h; rw [h] at this; cases this
  unfold parts touches
  by_cases a : e.1.1 = p
  · have b : e.1.2 ≠ p := fun z => hne (a.trans z.symm)
    simp [a, b]
  · by_cases b : e.1.2 = p
    · have a' : ¬ p = e.1.1 := fun z => a z.symm
      simp [a, b]
    · have a' : ¬ p = e.1.1 := fun z => a z.symm
      have b' : ¬ p = e.1.2 := fun z => b z.symm
      simp [a, b, a', b']
def tp (ts : Ties) (p : Str) (l : List Str) : Int := (l.map fun o => getT ts (o, p)).sum
theorem cut_more {ps : List Str} {ts : Ties} (g : MG ps ts) {l : List Str} {p : Str} (hl : LotOk ps l) (hp : p ∈ ps) (hlt : ∀ x ∈ l, ltS x p = true) : cutT ts (l ++ [p]) = cutT ts l + degT ts p - 2 * tp ts p l := by
  have hb : LotOk ps [p] := ⟨fun x hx => by rw [List.mem_singleton.mp hx]; exact hp, List.pairwise_singleton _ _⟩
  have e := ex_sum (j := l ++ [p]) g hl hb (fun x hx z => by
    rw [List.mem_singleton.mp z] at hx
    have := hlt _ hx
    have h2 := ltS_asymm this
    rw [this] at h2
    cases h2) (fun x => List.mem_append)
  rw [← e, cutT_touch g]
  have e2 : tbS ts l [p] = tp ts p l := by
    unfold tbS tp
    rw [List.flatMap_def]
    have : l.map (fun x => [p].map fun y => getT ts (ordP x y)) = (l.map fun o => getT ts (o, p)).map fun z => [z] := by
      rw [List.map_map]
      refine List.map_congr_left fun x hx => ?_
      show [getT ts (ordP x p)] = [getT ts (x, p)]
      have : ordP x p = (x, p) := by
        unfold ordP
        rw [if_pos (hlt x hx)]
      rw [this]
    rw [this]
    generalize l.map (fun o => getT ts (o, p)) = zs
    induction zs with
    | nil => rfl
    | cons z r ih => simpa using ih
  rw [e2]
theorem look_deg (f : Str → D) {p : Str} : ∀ {ps : List Str}, p ∈ ps → lookD (ps.map fun p => (Sum.inr p : Key)) (ps.map f) (Sum.inr p) = some (f p)
  | x :: r, h => by
    show (if (Sum.inr x : Key) = Sum.inr p then some (f x) else lookD (r.map fun p => (Sum.inr p : Key)) (r.map f) (Sum.inr p)) = _
    by_cases c : x = p
    · rw [if_pos (by rw [c]), c]
    · rw [if_neg (fun z => c (Sum.inr.inj z))]
      exact look_deg f ((List.mem_cons.mp h).resolve_left fun z => c z.symm)
theorem dGet_tiesL {ts : Ties} {a b : Str} {Q : Option D → Prop} : dGetO (tiesD ts) (.tup [.str a, .str b]) Q = Q (lookD (ts.map fun e => kP e.1) (ts.map fun e => .int e.2) (kP (a, b))) := rfl
theorem zip_maps {α : Type} (f g : α → D) : ∀ l : List α, zipD (l.map f) (l.map g) = l.map fun x => .tup [f x, g x]
  | [] => rfl
  | x :: r => by
    have := zip_maps f g r
    unfold zipD at this ⊢
    rw [List.map_cons, List.map_cons, List.zip_cons_cons, List.map_cons, this]
    rfl
def cutsD (ps : List Str) (ts : Ties) : D := .lst ((allS ps).map fun l => .int (cutT ts l))
def spAllCuts (C : Addr) : DSp := fun xs Q => ∃ ps ts, xs = [madeD C ps ts] ∧ MG ps ts ∧ ps.length ≤ 9 ∧ ts.length ≤ 900 ∧ Q (cutsD ps ts)
theorem allS_small {l : List Str} (h : l.length ≤ 9) : (allS l).length ≤ 1000 := by
  rw [allS_len]
  have : 2 ^ l.length ≤ 2 ^ 9 := Nat.pow_le_pow_right (by omega) h
  omega
theorem cuts_nil {ts : Ties} {C : Addr} {ps : List Str} : [Sl.val (madeD C ps ts), Sl.val (tiesD ts), Sl.val (degsD ps ts), Sl.val (D.lst [D.int 0]), Sl.emp, Sl.emp, Sl.emp, Sl.emp, Sl.emp, Sl.emp] = [Sl.val (madeD C ps ts), .val (tiesD ts), .val (degsD ps ts), .val (.lst ((allS []).map fun l => D.int (cutT ts l))), .emp, .emp, .emp, .emp, .emp, .emp] := by
  have e : cutT ts [] = 0 := by
    unfold cutT
    rw [List.filter_eq_nil_iff.mpr fun e _ => by simp [parts]]
    rfl
  show _ = [Sl.val (madeD C ps ts), Sl.val (tiesD ts), Sl.val (degsD ps ts), Sl.val (D.lst [D.int (cutT ts [])]), _, _, _, _, _, _]
  rw [e]
theorem zipIdx_fst {α : Type} : ∀ (l : List α) (k : Nat), (l.zipIdx k).map (·.1) = l
  | [], _ => rfl
  | x :: r, k => by rw [List.zipIdx_cons, List.map_cons, zipIdx_fst r]
theorem zipIdx_split {α : Type} {l : List α} {k : Nat} {d r : List (α × Nat)} {x : α × Nat} (e : l.zipIdx k = d ++ x :: r) : l = d.map (·.1) ++ x.1 :: r.map (·.1) ∧ x.2 = k + d.length := by
  refine ⟨?_, ?_⟩
  · have := congrArg (List.map (·.1)) e
    rw [zipIdx_fst, List.map_append, List.map_cons] at this
    exact this
  · have := congrArg (fun z : List (α × Nat) => z[d.length]?) e
    simp only [List.getElem?_zipIdx, List.getElem?_append_right (Nat.le_refl _), Nat.sub_self, List.getElem?_cons_zero] at this
    obtain ⟨y, _, rfl⟩ := Option.map_eq_some_iff.mp this
    rfl
theorem tp_more {ts : Ties} {p o : Str} {c : List Str} : (allS c).map (fun l => D.int (tp ts p l)) ++ (allS c).map (fun l => D.int (tp ts p l + getT ts (o, p))) = (allS (c ++ [o])).map fun l => D.int (tp ts p l) := by
  rw [allS_snoc, List.map_append, List.map_map]
  congr 1
  refine List.map_congr_left fun l hl => ?_
  show D.int _ = D.int (tp ts p (l ++ [o]))
  unfold tp
  rw [List.map_append, List.sum_append]
  simp
theorem ok_all_cuts {f : Addr} {fd : FuncData} {k : Nat} (F : Fun K "all_cuts" "all_cuts" s_all_cuts f fd) (m_enumerate : mg "enumerate" = none) (m_zip : mg "zip" = none) (Pr_places : DPr P w K mg base k C "places" (spPlaces C)) (Pr_ties : DPr P w K mg base k C "ties" (spTies C)) (Pr_degrees : DPr P w K mg base k C "degrees" (spDegrees C)) : FnOk P w K mg base CX0 (k + 1 + 1) f fd ["net"] (spD (spAllCuts C)) := by
  refine fnD_ok F sc_all_cuts (fun xs Q h => ?_) (fun dc cdv A outer s0 H E hr =>
    (dss_cons (ds_set (i := 1) sc_all_cuts.nd rfl (by first | exact Or.inl rfl | exact Or.inr rfl) (de_prop Pr_ties hr (Nat.le_refl _) (de_var 0)))
      (dss_cons (ds_set (i := 2) sc_all_cuts.nd rfl (by first | exact Or.inl rfl | exact Or.inr rfl) (de_prop Pr_degrees hr (Nat.le_refl _) (de_var 0)))
      (dss_cons (ds_set (i := 3) sc_all_cuts.nd rfl (by first | exact Or.inl rfl | exact Or.inr rfl) (de_lst (da_cons de_int da_nil)))
      (dss_cons (ds_for PassesOwn.never rfl (di_enum0 (by rfl) m_enumerate (de_prop Pr_places hr (Nat.le_refl _) (de_var 0))) (dg_tup (n := 2) rfl (dgs_cons (dg_name (i := 4) sc_all_cuts.nd rfl (by first | exact Or.inl rfl | exact Or.inr rfl)) (dgs_cons (dg_name (i := 5) sc_all_cuts.nd rfl (by first | exact Or.inl rfl | exact Or.inr rfl)) dgs_nil))) (dss_cons (ds_set (i := 6) sc_all_cuts.nd rfl (by first | exact Or.inl rfl | exact Or.inr rfl) (de_lst (da_cons de_int da_nil)))
      (dss_cons (ds_for PassesOwn.never rfl (di_seq (de_slice (de_prop Pr_places hr (Nat.le_refl _) (de_var 0)) do_none (do_some (de_var 4)))) (dg_name (i := 7) sc_all_cuts.nd rfl (by first | exact Or.inl rfl | exact Or.inr rfl)) (dss_cons (ds_set (i := 8) sc_all_cuts.nd rfl (by first | exact Or.inl rfl | exact Or.inr rfl) (de_get2 (hu_of hr) (de_var 1) (de_tup (da_cons (de_var 7) (da_cons (de_var 5) da_nil))) de_int ⟨by rfl, by rfl, by rfl, by rfl⟩))
      (dss_one (ds_set (i := 6) sc_all_cuts.nd rfl (by first | exact Or.inl rfl | exact Or.inr rfl) (de_op opd_add (de_var 6) (de_lc (own := [("ahead", 9)]) rfl sc_all_cuts.nd (di_seq (de_var 6)) (blkOk_by (N := ["net", "ties", "degrees", "cuts", "at", "place", "between", "other", "many", "ahead"]) (sc := defScope s_all_cuts) (by decide +kernel)) (fun _ _ _ _ _ => (dg_name (i := 9) sc_all_cuts.nd rfl (Or.inl rfl))) (fun _ _ _ _ _ => dts_nil) (fun _ _ _ _ _ => (de_op opd_add (de_var 9) (de_var 8))) (by decide)))))))
      (dss_one (ds_set (i := 3) sc_all_cuts.nd rfl (by first | exact Or.inl rfl | exact Or.inr rfl) (de_op opd_add (de_var 3) (de_lc (own := [("ahead", 9), ("many", 8)]) rfl sc_all_cuts.nd (di_zip (by rfl) m_zip (da_cons (de_var 3) (da_cons (de_var 6) da_nil))) (blkOk_by (N := ["net", "ties", "degrees", "cuts", "at", "place", "between", "other", "many", "ahead"]) (sc := defScope s_all_cuts) (by decide +kernel)) (fun _ _ _ _ _ => (dg_tup (n := 2) rfl (dgs_cons (dg_name (i := 9) sc_all_cuts.nd rfl (Or.inl rfl)) (dgs_cons (dg_name (i := 8) sc_all_cuts.nd rfl (Or.inl rfl)) dgs_nil)))) (fun _ _ _ _ _ => dts_nil) (fun _ _ _ _ _ => (de_op opd_sub (de_op opd_add (de_var 9) (de_sub (hu_of hr) (de_var 2) (de_var 5))) (de_op opd_mul de_int (de_var 8)))) (by decide))))))))
      (dss_one (ds_ret (de_var 3)))))))) (fun xs Q h => ?_)
  · obtain ⟨ps, ts, rfl, _⟩ := h; rfl
  · obtain ⟨ps, ts, rfl, g, hp, ht, q⟩ := h
    walk_at "dred3"
    refine ⟨ps, ts, rfl, by omega, g.nodup, ?_⟩
    walk_at "dred3"
    refine ⟨ps, ts, rfl, by omega, asc_nodup g.asc, by omega, g.nodup, ?_⟩
    walk_at "dred3"
    refine ⟨by decide, ?_⟩
    unfold sFor
    walk_at "dred3"
    refine ⟨ps, ts, rfl, ?_⟩
    walk_at "dred3"
    rw [enum0_strs]
    refine dFor_go (fun d ρ => ∃ s4 s5 s6 s7 s8 s9, ρ = [Sl.val (madeD C ps ts), .val (tiesD ts), .val (degsD ps ts), .val (.lst ((allS (d.map (·.1))).map fun l => D.int (cutT ts l))), s4, s5, s6, s7, s8, s9]) ⟨_, _, _, _, _, _, by rw [show ([] : List (Str × Nat)).map (·.1) = [] from rfl]; exact cuts_nil⟩ (fun d x r e ρ ⟨s4, s5, s6, s7, s8, s9, hρ⟩ E2 hE hrt => ?_) (fun ρ ⟨s4, s5, s6, s7, s8, s9, hρ⟩ => ?_)
    · subst hρ
      walk_at "dred3"
      refine ⟨by decide, ⟨ps, ts, rfl, ?_⟩⟩
      obtain ⟨e1, e2⟩ := zipIdx_split e
      rw [Nat.zero_add] at e2
      show dFor _ _ _ _ (cutD (ps.map D.str) none (some (x.2 : Int))) _
      have hdl : d.length < ps.length := by
        have := congrArg List.length e1
        rw [List.length_append, List.length_map, List.length_cons] at this
        omega
      rw [e2, cut_take _ _ (by rw [List.length_map]; omega), ← List.map_take]
      have e3 : ps.take d.length = d.map (·.1) := by
        conv => lhs; rw [e1]
        rw [List.take_append_of_le_length (by rw [List.length_map]; omega), List.take_of_length_le (by rw [List.length_map]; omega)]
      rw [e3]
      have hA : (d.map (·.1)).length = d.length := List.length_map ..
      generalize hAe : d.map (·.1) = A at e1 e3 hA ⊢
      have hlt : ∀ y ∈ A, ltS y x.1 = true := by
        have := g.asc
        rw [e1, List.pairwise_append] at this
        exact fun y hy => this.2.2 y hy _ List.mem_cons_self
      have hxp : x.1 ∈ ps := by rw [e1]; exact List.mem_append_right _ List.mem_cons_self
      refine dFor_go (fun c ρ => ∃ s7 s8, ρ = [Sl.val (madeD C ps ts), .val (tiesD ts), .val (degsD ps ts), .val (.lst ((allS A).map fun l => D.int (cutT ts l))), .val (.int (d.length : Nat)), .val (.str x.1), .val (.lst ((allS c).map fun l => D.int (tp ts x.1 l))), s7, s8, s9]) ⟨_, _, rfl⟩ (fun c o r2 ec ρ ⟨s7, s8, hρ⟩ E3 hE3 hrt3 => ?_) (fun ρ ⟨s7, s8, hρ⟩ => ?_)
      · subst hρ
        have hcl : c.length ≤ 9 := by
          have := congrArg List.length ec
          rw [List.length_append, List.length_cons] at this
          omega
        have hsm := allS_small hcl
        walk_at "dred3"
        refine ⟨by decide, ?_⟩
        rw [dGet_tiesL, look_getD]
        walk_at "dred3"
        refine ⟨by rw [List.length_map]; exact Nat.le_of_lt (small1000 hsm), lcL_all (g := fun l => D.int (tp ts x.1 l + getT ts (o, x.1))) (fun l hl K hk => ?_) ?_⟩
        · walk_at "dred3"
          exact hk
        · have hsz : (allS c).length + (allS c).length ≤ sizeLine := Nat.le_trans (show _ ≤ 2000 by omega) (by decide)
          rw [List.length_map, List.length_map]
          rw [tp_more]
          exact ⟨hsz, hE3 _ ⟨_, _, rfl⟩⟩
      · subst hρ
        have hAl : A.length ≤ 9 := by omega
        have hsm := allS_small hAl
        walk_at "dred3"
        rw [zip_maps]
        refine ⟨by rw [List.length_map]; exact Nat.le_of_lt (small1000 hsm), lcL_all (g := fun l => D.int (cutT ts l + degT ts x.1 - 2 * tp ts x.1 l)) (fun l hl K hk => ?_) ?_⟩
        · walk_at "dred3"
          show onSome (lookD (ps.map fun p => (Sum.inr p : Key)) (ps.map fun p => D.int (degT ts p)) (Sum.inr x.1)) _
          rw [look_deg (fun p => D.int (degT ts p)) hxp]
          exact ⟨.inl ⟨by decide, by decide⟩, hk⟩
        · have hsz : (allS A).length + (allS A).length ≤ sizeLine := Nat.le_trans (show _ ≤ 2000 by omega) (by decide)
          walk_at "dred3"
          rw [List.length_map, List.length_map]
          have key : (allS A).map (fun l => D.int (cutT ts l)) ++ (allS A).map (fun l => D.int (cutT ts l + degT ts x.1 - 2 * tp ts x.1 l)) = (allS ((d ++ [x]).map (·.1))).map fun l => D.int (cutT ts l) := by
            rw [List.map_append, hAe]
            show _ = (allS (A ++ [x.1])).map _
            rw [allS_snoc, List.map_append, List.map_map]
            congr 1
            refine List.map_congr_left fun l hl => ?_
            show D.int _ = D.int (cutT ts (l ++ [x.1]))
            have hs := mem_allS.mp hl
            rw [cut_more g (p := x.1) ⟨fun y hy => by rw [e1]; exact List.mem_append_left _ (hs.subset hy), (show A.Pairwise _ from by have := g.asc; rw [e1, List.pairwise_append] at this; exact this.1).sublist hs⟩ hxp (fun y hy => hlt y (hs.subset hy))]
          rw [key]
          exact ⟨hsz, hE _ ⟨_, _, _, _, _, _, rfl⟩⟩
    · subst hρ
      walk_at "dred3"
      rw [zipIdx_fst]
      exact q
end
/-! ### a < b < c as a test -/
section
variable {X : Cx} {dc : Option Addr} {a b c : Expr} {da db d3 : DT} {pos : Pos}
theorem dc_chain {op op' : CmpOp} {g h : D → D → (D → Prop) → Prop} (h1 : OpD X dc (compareOp op) g) (h2 : OpD X dc (compareOp op') h) (ha : DE X dc a da) (hb : DE X dc b db) (hc : DE X dc c d3)
    (hm : lastMarks [op, op'] [b, c] = false := by with_unfolding_all rfl) : DC X dc (.Compare a [op, op'] [b, c] pos) (dB (dChain g h da db d3)) := by
  have mm := (de_chain (pos := pos) h1 h2 ha hb hc hm).mono
  obtain ⟨mg, r, o, q⟩ := h1
  obtain ⟨mg', r', o', q'⟩ := h2
  have m1 := ha.mono
  have m2 := hb.mono
  have m3 := hc.mono
  obtain ⟨t1, p1, r1⟩ := ha.get
  obtain ⟨t2, p2, r2⟩ := hb.get
  obtain ⟨t3, p3, r3⟩ := hc.get
  refine ⟨dB_mono mm, _, pt_chain o o' p1 p2 p3 hm, fun ρ σ F H Q p s hh => ?_⟩
  refine r1 p s hh fun x v F1 H1 hh e1 q1 => r2 e1.pre (s.mono e1.fsub) hh fun y u F2 H2 hh e2 q2 => ?_
  refine q F2 H2 x y v u _ e2.pre (e2.rep q1) q2 (mg _ _ _ _ (fun z hz w F3 H3 e3 q3 => ?_) hh)
  obtain ⟨k, rfl, hk⟩ := hz.inv
  cases q3
  have e13 := (e1.trans p e2).trans p e3
  cases k with
  | true =>
    have hk2 : d3 ρ fun w => h y w fun x => asBl x (KB dc F H Q) := by simpa using hk
    refine ⟨true, rfl, iteT (r3 e3.pre (((s.mono e1.fsub).mono e2.fsub).mono e3.fsub) hk2 fun w v4 F4 H4 hw e4 q4 => ?_)⟩
    refine q' _ _ _ _ _ _ _ e4.pre (e4.rep (e3.rep q2)) q4 (mg' _ _ _ _ (fun z hz w5 F5 H5 e5 r5 => ?_) hw)
    obtain ⟨b5, rfl, hz⟩ := hz.inv
    cases r5
    exact ⟨b5, rfl, hz _ _ ((e13.trans p e4).trans p e5)⟩
  | false =>
    have hk2 : KB dc F H Q false := by
      have : asBl (.bl false) (KB dc F H Q) := by simpa using hk
      exact this
    exact ⟨false, rfl, iteF ⟨false, rfl, hk2 _ _ e13⟩⟩
end
theorem dAdd_lot {a b : List Str} {Q : D → Prop} : dAdd (lotD a) (lotD b) Q = (a.length + b.length ≤ sizeLine ∧ Q (lotD (a ++ b))) := by
  unfold lotD
  rw [dAdd_tup, List.length_map, List.length_map, List.map_append]
/-! ### x = [.. for ..], on one line -/
section
variable {X : Cx} {dc : Option Addr} {pos spos py : Pos}
theorem room65 {k : Nat} {A : Around} (r : Room k A) : A.units + 65 < cLine := by
  have := room80 r
  omega
end
/-! ### the law's lots and parts -/
abbrev s__law_lots : Stmt := topS 58
theorem sc__law_lots : FnScope ["net", "found", "place", "lot"] ["net"] (defScope s__law_lots) := ⟨rfl, rfl, rfl, by decide +kernel, rfl, by decide +kernel, by decide +kernel⟩
section
variable {P : Program} {w : World} {K : PySem.W.Frag} {mg : Str → Option Value} {base : Heap} {C : Addr}
theorem lots_more {c : List Str} {p : Str} : (allS c).map lotD ++ (allS c).map (fun l => lotD (l ++ [p])) = (allS (c ++ [p])).map lotD := by
  rw [allS_snoc, List.map_append, List.map_map]
  rfl
theorem dAdd_lotone {l : List Str} {p : Str} {Q : D → Prop} (h : l.length ≤ 1000) (q : Q (lotD (l ++ [p]))) : dAdd (lotD l) (.tup [.str p]) Q := by
  have e : dAdd (lotD l) (.tup [.str p]) Q = dAdd (lotD l) (lotD [p]) Q := rfl
  rw [e, dAdd_lot]
  exact ⟨Nat.le_trans (show l.length + [p].length ≤ 2000 by simp; omega) (by decide), q⟩
def properB (ps l : List Str) : Bool := decide (0 < l.length) && decide (l.length < ps.length)
def lotsS (ps : List Str) : List (List Str) := ((allS ps).filter (properB ps)).mergeSort leL
def spLawLots : DSp := fun xs Q => ∃ ps ts, xs = [netD ps ts] ∧ ps.length ≤ 9 ∧ Q (.lst ((lotsS ps).map lotD))
theorem sub_len {x l : List Str} (h : x ∈ allS l) : x.length ≤ l.length := (mem_allS.mp h).length_le
theorem ok__law_lots {f : Addr} {fd : FuncData} {k : Nat} (F : Fun K "_law_lots" "_law_lots" s__law_lots f fd) (m_len : mg "len" = none) (m_sorted : mg "sorted" = none) : FnOk P w K mg base CX0 (k + 1) f fd ["net"] (spD spLawLots) := by
  refine fnD_ok F sc__law_lots (fun xs Q h => ?_) (fun dc cdv A outer s0 H E hr =>
    (dss_cons (ds_set (i := 1) sc__law_lots.nd rfl (by first | exact Or.inl rfl | exact Or.inr rfl) (de_lst (da_cons (de_tup da_nil) da_nil)))
      (dss_cons (ds_for PassesOwn.never rfl (di_seq (de_sub (hu_of hr) (de_var 0) de_str)) (dg_name (i := 2) sc__law_lots.nd rfl (by first | exact Or.inl rfl | exact Or.inr rfl)) (dss_one (ds_set (i := 1) sc__law_lots.nd rfl (by first | exact Or.inl rfl | exact Or.inr rfl) (de_op opd_add (de_var 1) (de_lc (own := [("lot", 3)]) rfl sc__law_lots.nd (di_seq (de_var 1)) (blkOk_by (N := ["net", "found", "place", "lot"]) (sc := defScope s__law_lots) (by decide +kernel)) (fun _ _ _ _ _ => (dg_name (i := 3) sc__law_lots.nd rfl (Or.inl rfl))) (fun _ _ _ _ _ => dts_nil) (fun _ _ _ _ _ => (de_op opd_add (de_var 3) (de_tup (da_cons (de_var 2) da_nil)))) (by decide))))))
      (dss_one (ds_ret (de_callB (cd_sortedL (room80 hr)) (by rfl) m_sorted (by decide +kernel) (da_cons (de_lc (own := [("lot", 3)]) rfl sc__law_lots.nd (di_seq (de_var 1)) (blkOk_by (N := ["net", "found", "place", "lot"]) (sc := defScope s__law_lots) (by decide +kernel)) (fun _ _ _ _ _ => (dg_name (i := 3) sc__law_lots.nd rfl (Or.inl rfl))) (fun _ _ _ _ _ => (dts_one (dc_chain opd_lt opd_lt de_int (de_callB cd_len (by rfl) m_len (by decide +kernel) (da_cons (de_var 3) da_nil)) (de_callB cd_len (by rfl) m_len (by decide +kernel) (da_cons (de_sub (hu_of hr) (de_var 0) de_str) da_nil))))) (fun _ _ _ _ _ => (de_var 3)) (by decide)) da_nil))))))) (fun xs Q h => ?_)
  · obtain ⟨ps, ts, rfl, _⟩ := h; rfl
  · obtain ⟨ps, ts, rfl, hp, q⟩ := h
    walk_at "dred3"
    refine ⟨by decide, by decide, ?_⟩
    unfold sFor
    walk_at "dred3"
    refine dFor_go (fun d ρ => ∃ s2 s3, ρ = [Sl.val (netD ps ts), .val (.lst ((allS d).map lotD)), s2, s3]) ⟨_, _, rfl⟩ (fun d x r e ρ ⟨s2, s3, hρ⟩ E2 hE hrt => ?_) (fun ρ ⟨s2, s3, hρ⟩ => ?_)
    · subst hρ
      have hd : d.length ≤ 9 := by
        have := congrArg List.length e
        rw [List.length_append, List.length_cons] at this
        omega
      have hsm := allS_small hd
      walk_at "dred3"
      refine ⟨by rw [List.length_map]; exact Nat.le_of_lt (small1000 hsm), lcL_all (g := fun l => lotD (l ++ [x])) (fun l hl K hk => ?_) ?_⟩
      · have := sub_len hl
        walk_at "dred3"
        exact ⟨by decide, dAdd_lotone (by omega) hk⟩
      · walk_at "dred3"
        rw [List.length_map, List.length_map, lots_more]
        exact ⟨Nat.le_trans (show _ ≤ 2000 by omega) (by decide), hE _ ⟨_, _, rfl⟩⟩
    · subst hρ
      have hsm := allS_small hp
      walk_at "dred3"
      refine ⟨by rw [List.length_map]; exact Nat.le_of_lt (small1000 hsm), lcL_filter (g := lotD) (c := properB ps) (fun l hl K hk => ?_) ?_⟩
      · walk_at "dred3"
        unfold dChain
        walk_at "dred3"
        rw [List.length_map, List.length_map]
        unfold properB at hk
        by_cases c1 : 0 < l.length
        · rw [decide_eq_true c1, Bool.true_and] at hk
          rw [decide_eq_true (by omega)]
          refine iteT ?_
          by_cases c2 : l.length < ps.length
          · rw [decide_eq_true c2] at hk
            rw [decide_eq_true (by omega)]
            exact iteT (by simpa using hk)
          · rw [decide_eq_false c2] at hk
            rw [decide_eq_false (by omega)]
            exact iteF (by simpa using hk)
        · rw [decide_eq_false c1, Bool.false_and] at hk
          rw [decide_eq_false (by omega)]
          exact iteF (iteF (by simpa using hk))
      · refine ⟨_, rfl, fun l hl z => ?_, q⟩
        have := (List.mem_filter.mp hl).2
        rw [z] at this
        exact absurd this (by simp [properB])
end
/-! ### the def's own dict, looked at -/
mutual
def noT : D → Bool
  | .dT _ _ => false
  | .lst xs => noTs xs
  | .tup xs => noTs xs
  | .dK _ xs => noTs xs
  | .ins _ _ xs => noTs xs
  | _ => true
def noTs : List D → Bool
  | [] => true
  | x :: xs => noT x && noTs xs
end
def less (F : Hp) (a : Addr) : Hp := fun b => if b = a then none else F b
theorem less_ne {F : Hp} {a b : Addr} (h : b ≠ a) : less F a b = F b := if_neg h
theorem less_eq {F : Hp} {a : Addr} : less F a a = none := if_pos rfl
section
variable {dc : Option Addr} {F : Hp} {a : Addr} {kvs : List (List Key × V)}
mutual
theorem Rep.less (h : F a = some (.dT kvs)) : ∀ {x : D} {v : V}, Rep dc F x v → noT x = true → Rep dc (less F a) x v
  | _, _, .non, _ => .non
  | _, _, .bl b, _ => .bl b
  | _, _, .int i, _ => .int i
  | _, _, .str x, _ => .str x
  | _, _, .ty x, _ => .ty x
  | _, _, .raw x, _ => .raw x
  | _, _, .rng e, _ => .rng (by rw [less_ne (fun z => by rw [z, h] at e; cases e)]; exact e)
  | _, _, .cell e, _ => .cell e
  | _, _, .lst e r, n => .lst (by rw [less_ne (fun z => by rw [z, h] at e; cases e)]; exact e) (Reps.less h r (by rw [noT] at n; exact n))
  | _, _, .tup e r, n => .tup (by rw [less_ne (fun z => by rw [z, h] at e; cases e)]; exact e) (Reps.less h r (by rw [noT] at n; exact n))
  | _, _, .dK e l r, n => .dK (by rw [less_ne (fun z => by rw [z, h] at e; cases e)]; exact e) l (Reps.less h r (by rw [noT] at n; exact n))
  | _, _, .dT e l r, n => by rw [noT] at n; cases n
  | _, _, .ins e l r, n => .ins (by rw [less_ne (fun z => by rw [z, h] at e; cases e)]; exact e) l (Reps.less h r (by rw [noT] at n; exact n))
theorem Reps.less (h : F a = some (.dT kvs)) : ∀ {xs : List D} {vs : List V}, Reps dc F xs vs → noTs xs = true → Reps dc (less F a) xs vs
  | _, _, .nil, _ => .nil
  | _, _, .cons r t, n => by
    rw [noTs, Bool.and_eq_true] at n
    exact .cons (Rep.less h r n.1) (Reps.less h t n.2)
end
theorem Ext.less {H F1 H1 : Hp} {o : HO} (e : Ext dc (upd F a o) H F1 H1) (f : F a = none) (fs : ∀ b u, F b = some u → (upd F a o) b = some u) (no : Own o := by trivial) : Ext dc F H (less F1 a) H1 := by
  have ne : ∀ {b u}, (KP.less F1 a) b = some u → b ≠ a ∧ F1 b = some u := fun {b u} h => by
    by_cases z : b = a
    · subst z
      rw [less_eq] at h
      cases h
    · rw [less_ne z] at h
      exact ⟨z, h⟩
  have at1 : F1 a = some o := e.fsub a o upd_same
  refine ⟨⟨fun b u h => e.pre.sub b u (ne h).2, fun d z => ?_, fun q hq => (e.pre.tabs q hq).on (fun b u h z => ?_) fun ps z h => h⟩, e.keep, fun b u h => ?_, fun b u h => ?_⟩
  · obtain ⟨p, q⟩ := e.pre.dice d z
    refine ⟨p, ?_⟩
    by_cases c : d = a
    · rw [c, less_eq]
    · rw [less_ne c, q]
  · rw [less_ne]
    · exact h
    · rintro rfl
      rcases z with z | z
      · rw [at1] at z
        cases z
        exact no
      · rw [at1] at z
        cases z
        exact no
  · rw [less_ne (fun z => by rw [z, f] at h; cases h)]
    exact e.fsub b u (fs b u h)
  · obtain ⟨z, h⟩ := ne h
    rcases e.fnew b u h with q | q | q
    · rw [upd_ne z] at q
      exact .inl q
    · exact .inr (.inl q)
    · exact .inr (.inr q)
end
section
variable {X : Cx} {dc : Option Addr} {e : Expr} {d : DT} {pos : Pos}
theorem own_peek {F0 H0 F H : Hp} {ρ : SEnv} {σ : L2.St} {i : Nat} {ks : List (List Key)} {vs : List D} (I : SInv dc F0 H0 ρ σ F H) (hi : ρ[i]? = some (.own (.dT ks vs))) :
    ∃ F', SInv dc F0 H0 (ρ.set i (.val (.dT ks vs))) σ F' H ∧ ∀ {F1 H1 : Hp} {x : D} {v : V}, Ext dc F' H F1 H1 → Rep dc F1 x v → noT x = true → ∃ F2, SInv dc F0 H0 ρ σ F2 H1 ∧ Rep dc F2 x v := by
  obtain ⟨a, o, h1, h2, h3, h4, h5, h6⟩ := I.owns i _ hi
  have fs : ∀ b u, F b = some u → (upd F a o) b = some u := fun b u h => by
    rw [upd_ne (fun z => by rw [z, h4] at h; cases h)]
    exact h
  have J : SInv dc F0 H0 (ρ.set i (.val (.dT ks vs))) σ (upd F a o) H := by
    refine ⟨I.pre0, I.ext.close h5 h2 (h3.sub h2) h6 h4, by rw [List.length_set]; exact I.len, fun j y h => ?_, fun j y h => ?_, fun j k y z b g1 g2 g3 g4 => ?_⟩
    · rcases set_own h with ⟨hj, z, hl⟩ | ⟨hj, h⟩
      · subst hj
        cases z
        exact ⟨_, h1, (h3.mono fs).rep upd_same⟩
      · obtain ⟨v, q1, q2⟩ := I.vals j y h
        exact ⟨v, q1, q2.mono fs⟩
    · rcases set_own h with ⟨_, z, _⟩ | ⟨hj, h⟩
      · cases z
      · obtain ⟨b, u, q1, q2, q3, q4, q5, q6⟩ := I.owns j y h
        have hb : b ≠ a := fun z => hj (I.apart i j _ y a hi h h1 (by rw [← z]; exact q1))
        exact ⟨b, u, q1, q2, q3.mono fs, by rw [upd_ne hb]; exact q4, q5, q6⟩
    · rcases set_own g1 with ⟨_, z, _⟩ | ⟨_, g1⟩
      · cases z
      · rcases set_own g2 with ⟨_, z, _⟩ | ⟨_, g2⟩
        · cases z
        · exact I.apart j k y z b g1 g2 g3 g4
  refine ⟨_, J, fun {F1 H1 x v} e r n => ?_⟩
  have ho : ∃ kvs, o = .dT kvs := by
    cases h3 with
    | dT l rr => exact ⟨_, rfl⟩
  obtain ⟨kvs, rfl⟩ := ho
  have ha : F1 a = some (.dT kvs) := e.fsub _ _ upd_same
  exact ⟨_, I.step (e.less h4 fs), r.less ha n⟩
end
/-! ### == and != of two objects of an own class with its own == -/
/-! ### x != y by the class's own == -/
section
variable {X : Cx} {dc : Option Addr} {n : Nat} {C f : Addr} {fd : FuncData} {ps : List Str} {sp : Sp} {E : XK}
def dOwnCmp (C : Addr) (sp : DSp) (neg : Bool) (x y : D) (Q : D → Prop) : Prop := asIns x fun C1 _ _ => C1 = C ∧ asIns y fun C2 _ _ => C2 = C ∧ sp [x, y] fun z => asBl z fun k => Q (.bl (neg ^^ k))
theorem dOwnCmp.mono {sp : DSp} (ms : Mono sp) {neg : Bool} : ∀ x y (P P' : D → Prop), (∀ z, P z → P' z) → dOwnCmp C sp neg x y P → dOwnCmp C sp neg x y P' := fun x y P P' hP h =>
  asIns.mono (fun _ _ _ h => ⟨h.1, asIns.mono (fun _ _ _ h => ⟨h.1, ms _ _ _ (fun z h => asBl.mono (fun k h => hP _ h) h) h.2⟩) h.2⟩) h
variable {spd : DSp}
end
/-! ### == of two dicts under tuples -/
section
open PySem.W
variable {prog : Program} {w : World} {κ : Type} [DecidableEq κ] {knd : HeapKind prog w κ} {A : Around} {E : Value → Shared → Prop} {s : Shared}
inductive HitsH (prog : Program) (w : World) (A : Around) (s : Shared) (yb : List (κ × Addr × Value)) : List (κ × Addr × Value) → Bool → Prop
  | nil : HitsH prog w A s yb [] true
  | miss {k : κ} {p : Addr × Value} {r : List (κ × Addr × Value)} : (∀ (j : Nat) q, yb[j]? ≠ some (k, q)) → HitsH prog w A s yb ((k, p) :: r) false
  | hit {k : κ} {c c' : Addr} {v y : Value} {j : Nat} {r : List (κ × Addr × Value)} {e b : Bool} : yb[j]? = some (k, c', y) → SeqAt.EqP prog w A s v y e → HitsH prog w A s yb r b → HitsH prog w A s yb ((k, c, v) :: r) (e && b)
theorem HitsH.inv {yb : List (κ × Addr × Value)} {k : κ} {c : Addr} {v : Value} {r : List (κ × Addr × Value)} {b : Bool} (h : HitsH prog w A s yb ((k, c, v) :: r) b) :
    ((∀ (j : Nat) q, yb[j]? ≠ some (k, q)) ∧ b = false) ∨ ∃ (j : Nat) (c' : Addr) (y : Value) (e b' : Bool), yb[j]? = some (k, c', y) ∧ SeqAt.EqP prog w A s v y e ∧ HitsH prog w A s yb r b' ∧ b = (e && b') := by
  cases h with
  | miss hn => exact .inl ⟨hn, rfl⟩
  | hit hy he hr => exact .inr ⟨_, _, _, _, _, hy, he, hr, rfl⟩
end
section
def eqT (us : Ties) : Ties → Bool
  | [] => true
  | e :: r => match us.find? fun f => decide (f.1 = e.1) with
    | none => false
    | some f => decide (e.2 = f.2) && eqT us r
def eqTies (ts us : Ties) : Bool := (ts.length == us.length) && eqT us ts
variable {X : Cx} {H : Hp}
end
/-! by data -/
/-! ### dict comprehensions with a test: every key new -/
/-! ### further operators -/
/-! ### x[k] = v, x the def's own dict under tuples, the key new or not; v may look at it -/
def repl {κ β : Type} [DecidableEq κ] : List κ → List β → κ → β → List β
  | a :: ks, b :: bs, k, v => (if a = k then v else b) :: repl ks bs k v
  | _, bs, _, _ => bs
theorem repl_len {κ β : Type} [DecidableEq κ] : ∀ (ks : List κ) (bs : List β) (k : κ) (v : β), (repl ks bs k v).length = bs.length
  | [], _, _, _ => rfl
  | _ :: _, [], _, _ => rfl
  | a :: ks, b :: bs, k, v => by rw [repl, List.length_cons, List.length_cons, repl_len]
theorem repl_zip {κ : Type} [DecidableEq κ] (k : κ) (v : V) : ∀ (ks : List κ) (ws : List V), (ks.zip ws).map (fun kv => if kv.1 = k then (kv.1, v) else kv) = ks.zip (repl ks ws k v)
  | [], _ => rfl
  | _ :: _, [] => rfl
  | a :: ks, b :: ws => by
    rw [repl, List.zip_cons_cons, List.zip_cons_cons, List.map_cons, repl_zip k v ks ws]
    by_cases c : a = k
    · simp [c]
    · simp [c]
theorem repl_reps {κ : Type} [DecidableEq κ] {dc : Option Addr} {F : Hp} {k : κ} {y : D} {v : V} (r : Rep dc F y v) : ∀ {ks : List κ} {vs : List D} {ws : List V}, Reps dc F vs ws → Reps dc F (repl ks vs k y) (repl ks ws k v)
  | [], _, _, h => by
    show Reps dc F _ _
    cases h <;> first | exact .nil | exact .cons (by assumption) (by assumption)
  | _ :: _, _, _, .nil => .nil
  | a :: ks, _, _, .cons h t => by
    rw [repl, repl]
    by_cases c : a = k
    · rw [if_pos c, if_pos c]
      exact .cons r (repl_reps r t)
    · rw [if_neg c, if_neg c]
      exact .cons h (repl_reps r t)
def hasKT (ks : List (List Key)) (k : List Key) : Bool := ks.any fun a => decide (a = k)
theorem hasKT_iff {ks : List (List Key)} {k : List Key} : hasKT ks k = true ↔ k ∈ ks := by
  unfold hasKT
  rw [List.any_eq_true]
  exact ⟨fun ⟨x, h, e⟩ => of_decide_eq_true e ▸ h, fun h => ⟨k, h, decide_eq_true rfl⟩⟩
def putD (ks : List (List Key)) (vs : List D) (k : List Key) (y : D) : D := if hasKT ks k = true then .dT ks (repl ks vs k y) else .dT (ks ++ [k]) (vs ++ [y])
theorem put_own {dc : Option Addr} {F : Hp} {ks : List (List Key)} {vs : List D} {ws : List V} {k : List Key} {y : D} {v : V} (l : ks.length = ws.length) (rr : Reps dc F vs ws) (r : Rep dc F y v) : OwnO dc F (.dT (putK (ks.zip ws) k v)) (putD ks vs k y) := by
  unfold putD
  by_cases c : hasKT ks k = true
  · rw [if_pos c]
    have c := hasKT_iff.mp c
    have h1 : ((ks.zip ws).any fun kv => decide (kv.1 = k)) = true := by
      rw [List.any_eq_true]
      obtain ⟨i, hi⟩ := List.mem_iff_getElem?.mp c
      have hil := (List.getElem?_eq_some_iff.mp hi).1
      have hw : ws[i]? = some ws[i] := List.getElem?_eq_getElem (by omega)
      exact ⟨(k, ws[i]), List.mem_of_getElem? (i := i) (by rw [List.getElem?_zip_eq_some]; exact ⟨hi, hw⟩), decide_eq_true rfl⟩
    unfold putK
    rw [if_pos h1, repl_zip]
    exact .dT (by rw [repl_len]; exact l) (repl_reps r rr)
  · rw [if_neg c]
    have c : k ∉ ks := fun z => c (hasKT_iff.mpr z)
    rw [putK_new (by rw [zip_keys _ _ l]; exact c)]
    have e3 : ks.zip ws ++ [(k, v)] = (ks ++ [k]).zip (ws ++ [v]) := by rw [List.zip_append l]; rfl
    rw [e3]
    exact .dT (by rw [List.length_append, List.length_append, l]; rfl) (rr.app (.cons r .nil))
def sPutO (i : Nat) (dk dv : DT) : DTS := fun E ρ => ∃ ks vs, ρ[i]? = some (.own (.dT ks vs)) ∧ dv (visD (ρ.set i (.val (.dT ks vs)))) fun y => noT y = true ∧ dk (visD ρ) fun k => ∃ kk, keyT k = some kk ∧ ks.length < sizeLine ∧ E.nx (ρ.set i (.own (putD ks vs kk y)))
section
variable {X : Cx} {dc : Option Addr} {pos pos' pn : Pos}
theorem ds_putO {i : Nat} {x : Str} {ek ev : Expr} {dk dv : DT} (hu : X.A.units + 1 < cLine) (hN : X.N[i]? = some x) (hv : Vis X.env.scope x) (hk : DE X dc ek dk) (he : DE X dc ev dv) (hdb : (x == ("__debug__" : Str)) = false := by decide) (hcd : (x == ("__classdict__" : Str)) = false := by decide)
    (hs : swapsWith ev (some (.Subscript (.Name x pn) ek pos')) pos.line X.env = pure false := by rfl) : DS X dc (.Assign [.Subscript (.Name x pn) ek pos'] ev pos) (sPutO i dk dv) := by
  have mk := hk.mono
  have mv := he.mono
  obtain ⟨t1, p1, r1⟩ := hk.get
  obtain ⟨t2, p2, r2⟩ := he.get
  refine ⟨fun E E' ρ l ⟨ks, vs, a, h⟩ => ⟨ks, vs, a, mv _ _ _ (fun y h => ⟨h.1, mk _ _ _ (fun k ⟨kk, b, d, e⟩ => ⟨kk, b, d, l.nx _ e⟩) h.2⟩) h⟩, _, ps_dput hu (pe_var (pos := pn) hN hv hdb hcd) p1 p2 hs, fun F0 H0 ρ σ F H E D' I L ⟨ks, vs, hi, h⟩ => ?_⟩
  obtain ⟨F', J, back⟩ := own_peek I hi
  refine r2 J.ext.pre J.slots h fun y v F1 H1 h e1 q1 => ?_
  obtain ⟨F2, I1, q2⟩ := back e1 q1 h.1
  obtain ⟨a, o, hs, ha, ho, _, _, nd⟩ := I1.owns i _ hi
  refine ⟨.ref a, hs, ?_⟩
  refine r1 I1.ext.pre I1.slots h.2 fun k u F3 H3 h e2 q3 => ?_
  have I2 := I1.step e2
  obtain ⟨kk, hk, hz, h⟩ := h
  obtain ⟨a', o', hs', ha', ho', nF, n0, nd'⟩ := I2.owns i _ hi
  rw [hs] at hs'
  cases hs'
  generalize hx : D.dT ks vs = xx at ho'
  cases ho' with
  | lst _ => cases hx
  | dK _ _ => cases hx
  | @dT ks' ws vs' l rr =>
  cases hx
  cases q3 with
  | @tup b xs us eb rb =>
    have hu' := Reps.keysOf rb hk
    subst hu'
    refine ⟨a, _, rfl, .t ha' (I2.ext.pre.sub _ _ eb) ?_, L.nx _ _ _ _ (I2.put hi hs nF n0 nd' (put_own l rr (e2.rep q2))) h⟩
    rw [List.length_zip, ← l, Nat.min_self]
    exact hz
  | _ => cases hk
end
/-! ### o[i] by the class's own __getitem__ -/
/-! ### a for over a dict whose keys are tuples -/
section
variable {X : Cx} {dc : Option Addr}
/-- the dict at a is locked, and what is held stays held -/
theorem SInv.lock {F0 H0 F H : Hp} {ρ : SEnv} {σ : L2.St} {d : Addr} {o : Obj} {kvs : List (List Key × V)} (I : SInv dc F0 H0 ρ σ F H) (ef : F0 d = some (.dT kvs)) (hd : H0 d = some (.dT kvs)) :
    SInv dc F0 (upd H0 d (.frz o (.dT kvs))) ρ σ F (upd H d (.frz o (.dT kvs))) := by
  have ndd : dc ≠ some d := fun z => by rw [(I.pre0.dice d z).2] at ef; cases ef
  have ef1 := I.ext.fsub d _ ef
  have hd1 : H d = some (.dT kvs) := I.ext.keep d _ ndd hd
  refine ⟨I.pre0.lock ef hd, ⟨I.ext.pre.lock ef1 hd1, fun b u hb q => ?_, I.ext.fsub, fun b u q => ?_⟩, I.len, I.vals, fun i x h => ?_, I.apart⟩
  · by_cases c : b = d
    · subst c
      rw [upd_same] at q ⊢
      exact kp_of q
    · rw [upd_ne c] at q ⊢
      exact I.ext.keep b u hb q
  · by_cases c : b = d
    · subst c
      rw [ef1] at q
      cases q
      exact .inl ef
    · rw [upd_ne c]
      exact I.ext.fnew b u q
  · obtain ⟨a, u, h1, h2, h3, h4, h5, h6⟩ := I.owns i x h
    have c : a ≠ d := fun z => by rw [z, ef1] at h4; cases h4
    exact ⟨a, u, h1, by rw [upd_ne c]; exact h2, h3, h4, by rw [upd_ne c]; exact h5, h6⟩
def sForK (w : DT) (is : List Nat) (g : DTG) (body : DTS) : DTS := fun E ρ => w (visD ρ) fun x => asDT x fun ks _ => dFor is g body E (keysD ks) ρ
end
/-! ### ties under new names: the sum over what falls together -/
theorem int_sum_perm {l m : List Int} (p : l.Perm m) : l.sum = m.sum := by
  induction p with
  | nil => rfl
  | cons _ _ ih => rw [List.sum_cons, List.sum_cons, ih]
  | swap a b l => simp only [List.sum_cons]; omega
  | trans _ _ a b => exact a.trans b
theorem putT_len (ts : Ties) (k : Str × Str) (v : Int) : (putT ts k v).length ≤ ts.length + 1 := by
  unfold putT
  split
  · rw [List.length_map]; omega
  · rw [List.length_append]; exact Nat.le_refl _
local macro_rules | `(tactic| walk_at "dred4") => `(tactic| try simp only [sForK, eq_self, iEnumD, iRngV, asRng_rng, intTwo_two, dDcS, dDcT, sRet, sSet, sIf, sSeq, sExpr, sAsg, sPar2, dCall, dCons, dNil, dLc, dLcK, dLc2, iSeq, iZipD, dVar, dB, d2, dC, dTup, dLst, dAnd, dOr, dNot, dAndV, dOrV, dNotV, dIf, dYes, dFn, dPr, dMt, dFld, retE, visD, startS, Sl.seen, setAllS,
  lcF, lcF2, gN, gsN, gsC, setAllD, wipeD, arg1_one, arg2_two, asSeq_lst, asSeq_tup, asSeq_lot, asTup_tup, asTup_lot, asLst_lst, asInt_int, asStr_str, asBl_bl, asIns_ins, asIns_made, asDT_dT, asDT_ties, asD_dK, asD_dT, asD_ties, pr2_two, onSome_some, dSub_lst, dSub_tup, dSub_dT, dSub_dK, dSub_pair0, dSub_pair1, dSub_ties, dSub_netp, dSub_nett, dGetO_pair, dGet_ties,
  dEq_int, dEq_str, dEq_bl, dNe_int, dNe_str, dNe_bl, dLt_str, dLt_int, dAdd_int, dAdd_lst, dAdd_tup, onZip_tup, onZip_lst, atI_two0, atI_two1, gTupD_tup, fld_places, fld_ties, look_pl, look_ti, dInA_strT, dInA_strL, dInA_strTup,
  List.map_cons, List.map_nil, List.length_cons, List.length_nil, List.replicate, List.cons_append, List.nil_append, List.append_nil, List.getElem?_cons_zero, List.getElem?_cons_succ, List.set_cons_zero, List.set_cons_succ, Nat.reduceAdd, Nat.reduceSub, Bool.false_xor, Bool.true_xor, Nat.sub_self, Nat.add_one_sub_one, reduceIte, if_true, if_false, true_and, and_true])
/-! ### the loop of Net._called -/
section
variable {P : Program} {w : World} {K : PySem.W.Frag} {mg : Str → Option Value} {base : Heap} {C : Addr}
namespace O12
theorem repl_ties (ts : Ties) (k : Str × Str) (v : Int) : repl (ts.map fun e => kP e.1) (ts.map fun e => D.int e.2) (kP k) (.int v) = (ts.map fun e => if e.1 = k then (e.1, v) else e).map fun e => D.int e.2 := by
  induction ts with
  | nil => rfl
  | cons e r ih =>
    rw [List.map_cons, List.map_cons, repl, ih, List.map_cons, List.map_cons]
    by_cases c : e.1 = k
    · rw [if_pos (by rw [c]), if_pos c]
    · rw [if_neg (fun z => c (kP_inj' z)), if_neg c]
theorem putD_ties (ts : Ties) (k : Str × Str) (v : Int) : putD (ts.map fun e => kP e.1) (ts.map fun e => D.int e.2) (kP k) (.int v) = tiesD (putT ts k v) := by
  have hk : hasKT (ts.map fun e => kP e.1) (kP k) = ts.any fun e => decide (e.1 = k) := by
    unfold hasKT
    rw [List.any_map]
    congr 1
    funext e
    exact decide_eq_decide.mpr ⟨kP_inj', fun z => congrArg kP z⟩
  unfold putD putT tiesD
  rw [hk]
  by_cases c : (ts.any fun e => decide (e.1 = k)) = true
  · rw [if_pos c, if_pos c, repl_ties]
    have e2 : (ts.map fun e => if e.1 = k then (e.1, v) else e).map (fun e => kP e.1) = ts.map fun e => kP e.1 := by
      rw [List.map_map]
      refine List.map_congr_left fun e _ => ?_
      show kP (if e.1 = k then (e.1, v) else e).1 = kP e.1
      by_cases c : e.1 = k
      · rw [if_pos c]
      · rw [if_neg c]
    rw [e2]
  · rw [if_neg c, if_neg c, List.map_append, List.map_append]
    rfl
theorem dSub_ties {ts : Ties} {x : (Str × Str) × Int} {Q : D → Prop} (nd : (ts.map (·.1)).Nodup) (h : x ∈ ts) (q : Q (.int x.2)) : dSub (tiesD ts) (.tup [.str x.1.1, .str x.1.2]) Q := by
  have hg := getT_of nd h
  show onSome (lookD (ts.map fun e => kP e.1) (ts.map fun e => D.int e.2) (kP x.1)) Q
  rw [look_ties]
  unfold getT at hg
  cases e : ts.find? (fun e => decide (e.1 = x.1)) with
  | none => exact absurd (List.find?_eq_none.mp e x h) (by simp)
  | some y =>
    rw [e] at hg
    have hy : y.2 = x.2 := hg
    show Q (.int y.2)
    rw [hy]
    exact q
end O12
end
/-! ### expressions whose dict is new, and nets made of them -/
/-! ### _net_of -/
section
namespace O12
end O12
end
/-! ### lots in order -/
theorem allS_head : ∀ l : List Str, ∃ r, allS l = [] :: r ∧ ∀ x ∈ r, x ≠ [] := snoc_ind ⟨[], rfl, fun _ h => by cases h⟩ fun l p ⟨r, e, h⟩ => by
  refine ⟨r ++ (allS l).map (· ++ [p]), by rw [allS_snoc, e]; rfl, fun x hx => ?_⟩
  rcases List.mem_append.mp hx with hx | hx
  · exact h x hx
  · obtain ⟨y, _, rfl⟩ := List.mem_map.mp hx
    simp
/-! ### own lists and dicts of a def: x, y = [], e; x.append(e); x, y = dict(e), {}; x[k] = v under a text; {"a": e, "b": f} -/
section
variable {X : Cx} {dc : Option Addr} {pos : Pos}
/-- x, y = [], e -/
def sParL (i j : Nat) (d : DT) : DTS := fun E ρ => d (visD ρ) fun y => E.nx ((ρ.set i (.own (.lst []))).set j (.val y))
/-- x.append(e), x the def's own list -/
def sApp (i : Nat) (d : DT) : DTS := fun E ρ => ∃ xs, ρ[i]? = some (.own (.lst xs)) ∧ xs.length < sizeLine ∧ d (visD ρ) fun y => E.nx (ρ.set i (.own (.lst (xs ++ [y]))))
theorem own_lst {F0 H0 F H : Hp} {ρ : SEnv} {σ : L2.St} {i : Nat} {xs : List D} (I : SInv dc F0 H0 ρ σ F H) (hi : ρ[i]? = some (.own (.lst xs))) : ∃ a vs, σ[i]? = some (some (.ref a)) ∧ H a = some (.lst vs) ∧ Reps dc F xs vs ∧ F a = none ∧ H0 a = none ∧ dc ≠ some a := by
  obtain ⟨a, o, h1, h2, h3, h4, h5, h6⟩ := I.owns i _ hi
  generalize hx : D.lst xs = xx at h3
  cases h3 with
  | dK _ _ => cases hx
  | dT _ _ => cases hx
  | @lst vs ys rr =>
    cases hx
    exact ⟨a, vs, h1, h2, rr, h4, h5, h6⟩
/-- x, y = dict(e), {}: e a list of pairs of a text and a value -/
def pairsK (prs : List (Str × D)) : D := .lst (prs.map fun p => .tup [.str p.1, p.2])
theorem putKK_new {kvs : List (Key × V)} {k : Key} {v : V} (h : k ∉ kvs.map (·.1)) : putK kvs k v = kvs ++ [(k, v)] := by
  unfold putK
  rw [if_neg]
  intro z
  obtain ⟨p, hp, e⟩ := List.any_eq_true.mp z
  exact h (List.mem_map.mpr ⟨p, hp, of_decide_eq_true e⟩)
theorem mergeK_new : ∀ {more acc : List (Key × V)}, ((acc ++ more).map (·.1)).Nodup → mergeK acc more = acc ++ more
  | [], acc, _ => by rw [List.append_nil]; rfl
  | kv :: r, acc, nd => by
    have h : kv.1 ∉ acc.map (·.1) := fun z => by
      rw [List.map_append, List.map_cons, List.nodup_append] at nd
      exact nd.2.2 _ z _ (List.mem_cons_self ..) rfl
    show mergeK (putK acc kv.1 kv.2) r = _
    rw [putKK_new h, mergeK_new (by rw [List.append_assoc]; exact nd), List.append_assoc]
    rfl
def sParDT (i j : Nat) (d : DT) : DTS := fun E ρ => d (visD ρ) fun x => ∃ prs : List (Str × D), x = pairsK prs ∧ (prs.map (·.1)).Nodup ∧ E.nx ((ρ.set i (.own (.dK (prs.map fun p => Sum.inr p.1) (prs.map (·.2))))).set j (.own (.dT [] [])))
/-- x[k] = v, x the def's own dict under texts or numbers, the key there or not -/
def hasKK (ks : List Key) (k : Key) : Bool := ks.any fun a => decide (a = k)
def putDK (ks : List Key) (vs : List D) (k : Key) (y : D) : D := if hasKK ks k = true then .dK ks (repl ks vs k y) else .dK (ks ++ [k]) (vs ++ [y])
def sPutKS (i : Nat) (dk dv : DT) : DTS := fun E ρ => ∃ ks vs, ρ[i]? = some (.own (.dK ks vs)) ∧ ks.length < sizeLine ∧ dv (visD ρ) fun y => dk (visD ρ) fun k => asStr k fun s => E.nx (ρ.set i (.own (putDK ks vs (Sum.inr s) y)))
/-- {"a": e, "b": f} -/
def dDisp2 (k1 k2 : Str) (d1 d2 : DT) : DT := fun ρ Q => d1 ρ fun x => d2 ρ fun y => Q (.dK [Sum.inr k1, Sum.inr k2] [x, y])
theorem de_disp2 {k1 k2 : Str} {e1 e2 : Expr} {d1 d2 : DT} {n1 n2} {q1 q2 : Pos} (h1 : DE X dc e1 d1) (h2 : DE X dc e2 d2) (hne : (k1 == k2) = false) : DE X dc (.Dict [some (.Constant (.str k1) n1 q1), some (.Constant (.str k2) n2 q2)] [e1, e2] pos) (dDisp2 k1 k2 d1 d2) := by
  have m1 := h1.mono
  have m2 := h2.mono
  obtain ⟨t1, p1, r1⟩ := h1.get
  obtain ⟨t2, p2, r2⟩ := h2.get
  have hk : ¬ (Sum.inr k1 : Key) = Sum.inr k2 := fun z => by
    rw [Sum.inr.inj z] at hne
    simp at hne
  refine ⟨fun ρ P P' hP h => m1 _ _ _ (fun x h => m2 _ _ _ (fun y h => hP _ h) h) h, _, pe_disp (pps_cons pe_str p1 (pps_cons pe_str p2 pps_nil)) (by rfl) (by rfl) (fun z => by cases z) (show 2 ≤ 15 by decide), fun ρ σ F H Q p s h => fun a na => ?_⟩
  have e0 := Ext.grow p (same_upd (H := H) (o := .dK []) na)
  have fa : F a = none := p.nf na
  have da : dc ≠ some a := p.nd na
  have nt : ∀ us, HO.dK [] ≠ .tup us := fun _ z => nomatch z
  refine r1 e0.pre (s.mono e0.fsub) h fun x v F1 H1 h e1 q1 => r2 e1.pre ((s.mono e0.fsub).mono e1.fsub) h fun y u F2 H2 h e2 q2 => ?_
  have hD1 : H1 a = some (.dK []) := e1.keep _ _ da upd_same
  have fD1 : F1 a = none := e1.out fa upd_same nt
  have hD2 : H2 a = some (.dK []) := e2.keep _ _ da hD1
  have fD2 : F2 a = none := e2.out fD1 hD1 nt
  refine ⟨hD2, [(Sum.inr k1, v), (Sum.inr k2, u)], rfl, (show 2 ≤ 15 by decide), ?_⟩
  have em : mergeK [] [((Sum.inr k1 : Key), v), (Sum.inr k2, u)] = [((Sum.inr k1 : Key), v), (Sum.inr k2, u)] := by
    rw [mergeK_new, List.nil_append]
    exact List.nodup_cons.mpr ⟨fun z => hk (List.mem_singleton.mp z), List.pairwise_singleton _ _⟩
  rw [em]
  have e3 := ((e0.trans p e1).trans p e2).put (o := .dK [((Sum.inr k1 : Key), v), (Sum.inr k2, u)]) na fD2 da
  have ec := e3.close na upd_same (.inl upd_same) da fD2
  have fs : ∀ b w, F2 b = some w → (upd F2 a (.dK [((Sum.inr k1 : Key), v), (Sum.inr k2, u)])) b = some w := fun b w z => by
    rw [upd_ne (fun y => by rw [y, fD2] at z; cases z)]
    exact z
  exact h _ _ _ ec (.dK (vs := [v, u]) upd_same rfl (.cons ((e2.rep q1).mono fs) (.cons (q2.mono fs) .nil)))
end
/-! ### Net.__eq__ -/
section
namespace O12
end O12
end
/-! ### nets merged lot by lot, and the ties all at once -/
namespace O12
def wsum (c : Str × Str → Bool) (ts : Ties) : Int := ((ts.filter fun e => c e.1).map (·.2)).sum
theorem wsum_nil (c : Str × Str → Bool) : wsum c [] = 0 := rfl
theorem wsum_cons (c : Str × Str → Bool) (e : (Str × Str) × Int) (r : Ties) : wsum c (e :: r) = (if c e.1 = true then e.2 else 0) + wsum c r := by
  unfold wsum
  rw [List.filter_cons]
  by_cases h : c e.1 = true
  · rw [if_pos h, if_pos h, List.map_cons, List.sum_cons]
  · rw [if_neg h, if_neg h]
    omega
theorem wsum_app (c : Str × Str → Bool) : ∀ (a b : Ties), wsum c (a ++ b) = wsum c a + wsum c b
  | [], b => by rw [List.nil_append, wsum_nil]; omega
  | e :: r, b => by rw [List.cons_append, wsum_cons, wsum_cons, wsum_app c r b]; omega
theorem wsum_perm (c : Str × Str → Bool) {a b : Ties} (p : a.Perm b) : wsum c a = wsum c b := int_sum_perm ((p.filter _).map _)
theorem wsum_none {c : Str × Str → Bool} : ∀ {a : Ties}, (∀ e ∈ a, c e.1 = false) → wsum c a = 0
  | [], _ => rfl
  | e :: r, h => by
    rw [wsum_cons, h e (List.mem_cons_self ..), if_neg (by decide), wsum_none fun x hx => h x (List.mem_cons_of_mem _ hx)]
    rfl
theorem wsum_congr {c d : Str × Str → Bool} : ∀ {a : Ties}, (∀ e ∈ a, c e.1 = d e.1) → wsum c a = wsum d a
  | [], _ => rfl
  | e :: r, h => by
    rw [wsum_cons, wsum_cons, h e (List.mem_cons_self ..), wsum_congr fun x hx => h x (List.mem_cons_of_mem _ hx)]
theorem getT_cons (a : (Str × Str) × Int) (r : Ties) (k : Str × Str) : getT (a :: r) k = if a.1 = k then a.2 else getT r k := by
  unfold getT
  rw [List.find?_cons]
  by_cases h : a.1 = k
  · rw [if_pos h, decide_eq_true h]
    rfl
  · rw [if_neg h, decide_eq_false h]
theorem getT_out : ∀ {r : Ties} {k : Str × Str}, k ∉ r.map (·.1) → getT r k = 0
  | [], _, _ => rfl
  | a :: r, k, h => by
    rw [List.map_cons, List.mem_cons, not_or] at h
    rw [getT_cons, if_neg fun z => h.1 z.symm, getT_out h.2]
theorem wsum_put (c : Str × Str → Bool) (k : Str × Str) (v : Int) : ∀ {acc : Ties}, (acc.map (·.1)).Nodup → wsum c (putT acc k v) = wsum c acc + if c k = true then v - getT acc k else 0 := by
  intro acc nd
  unfold putT
  by_cases h : (acc.any fun e => decide (e.1 = k)) = true
  · rw [if_pos h]
    induction acc with
    | nil => cases h
    | cons a r ih =>
      rw [List.map_cons, List.nodup_cons] at nd
      rw [List.map_cons, wsum_cons, wsum_cons, getT_cons]
      by_cases z : a.1 = k
      · rw [if_pos z, if_pos z]
        have e : r.map (fun e => if e.1 = k then (e.1, v) else e) = r := by
          conv => rhs; rw [← List.map_id r]
          refine List.map_congr_left fun e he => ?_
          rw [if_neg fun y => nd.1 (by rw [z, ← y]; exact List.mem_map_of_mem he)]
          rfl
        rw [e, z]
        by_cases cc : c k = true
        · rw [if_pos cc, if_pos cc, if_pos cc]
          omega
        · rw [if_neg cc, if_neg cc, if_neg cc]
          omega
      · rw [if_neg z, if_neg z]
        rw [List.any_cons, decide_eq_false z, Bool.false_or] at h
        rw [ih nd.2 h]
        omega
  · rw [if_neg h, wsum_app, wsum_cons, wsum_nil]
    have e : getT acc k = 0 := getT_out fun z => by
      obtain ⟨e, he, hk⟩ := List.mem_map.mp z
      exact h (List.any_eq_true.mpr ⟨e, he, decide_eq_true hk⟩)
    rw [e]
    by_cases cc : c k = true
    · rw [if_pos cc, if_pos cc]
      omega
    · rw [if_neg cc, if_neg cc]
      omega
theorem wsum_one {k : Str × Str} : ∀ {ts : Ties}, (ts.map (·.1)).Nodup → wsum (fun j => decide (j = k)) ts = getT ts k
  | [], _ => rfl
  | a :: r, nd => by
    rw [List.map_cons, List.nodup_cons] at nd
    rw [wsum_cons, getT_cons]
    by_cases h : a.1 = k
    · rw [if_pos (decide_eq_true h), if_pos h, wsum_none fun e he => decide_eq_false fun z => nd.1 (by rw [h, ← z]; exact List.mem_map_of_mem he)]
      omega
    · rw [if_neg (by rw [decide_eq_false h]; decide), if_neg h, wsum_one nd.2]
      omega
/-- equal sums: equal ties -/
theorem eqTies_of {a b : Ties} (na : (a.map (·.1)).Nodup) (nb : (b.map (·.1)).Nodup) (pa : ∀ e ∈ a, 1 ≤ e.2) (pb : ∀ e ∈ b, 1 ≤ e.2) (h : ∀ k, getT a k = getT b k) : eqTies a b = true := by
  have keys : ∀ {x y : Ties}, (x.map (·.1)).Nodup → (∀ e ∈ x, 1 ≤ e.2) → (∀ k, getT x k = getT y k) → ∀ k ∈ x.map (·.1), k ∈ y.map (·.1) := fun {x y} nx px hk k hm => by
    obtain ⟨e, he, rfl⟩ := List.mem_map.mp hm
    refine Classical.byContradiction fun z => ?_
    have h1 := hk e.1
    rw [getT_of nx he, getT_out z] at h1
    have := px e he
    omega
  have pk : (a.map (·.1)).Perm (b.map (·.1)) := (List.perm_ext_iff_of_nodup na nb).mpr fun k => ⟨keys na pa h k, keys nb pb (fun k => (h k).symm) k⟩
  have hl : a.length = b.length := by
    have := pk.length_eq
    rwa [List.length_map, List.length_map] at this
  unfold eqTies
  rw [hl, beq_self_eq_true, Bool.true_and]
  have all : ∀ r : Ties, (∀ e ∈ r, e ∈ a) → eqT b r = true := fun r => by
    induction r with
    | nil => exact fun _ => rfl
    | cons e r ih =>
      intro hr
      have he := hr e (List.mem_cons_self ..)
      have hm := pk.mem_iff.mp (List.mem_map_of_mem (f := (·.1)) he)
      obtain ⟨f, hf, e1⟩ := List.mem_map.mp hm
      have e2 := find_of nb hf
      unfold eqT
      rw [← e1, e2]
      have h1 := h e.1
      rw [getT_of na he, ← e1, getT_of nb hf] at h1
      show (decide (e.2 = f.2) && eqT b r) = true
      rw [decide_eq_true h1, ih fun x hx => hr x (List.mem_cons_of_mem _ hx)]
      rfl
  exact all a fun _ h => h
end O12
/-! ### groups of a net: labels, and the least lots that no tie leaves -/
namespace O8
/-- the labels after one more tie -/
def labS (f : Str → Str) (k : Str × Str) (p : Str) : Str := if f p = (ordP (f k.1) (f k.2)).2 then (ordP (f k.1) (f k.2)).1 else f p
/-- what the labels f of the places ps say of the ties ks -/
structure Lab (ps : List Str) (ks : List (Str × Str)) (f : Str → Str) : Prop where
  inP : ∀ p ∈ ps, f p ∈ ps
  idem : ∀ p ∈ ps, f (f p) = f p
  low : ∀ p ∈ ps, f p = p ∨ ltS (f p) p = true
  tie : ∀ k ∈ ks, f k.1 = f k.2
  back : ∀ L : Str → Prop, (∀ k ∈ ks, L k.1 ↔ L k.2) → ∀ p ∈ ps, L p ↔ L (f p)
theorem ord_cases (a b : Str) : (ordP a b = (a, b) ∧ ltS a b = true) ∨ (ordP a b = (b, a) ∧ ltS a b = false) := by
  unfold ordP
  by_cases c : ltS a b = true
  · rw [if_pos c]; exact .inl ⟨rfl, c⟩
  · rw [if_neg c]; exact .inr ⟨rfl, Bool.eq_false_iff.mpr c⟩
/-- low and high of a pair of labels -/
theorem ord_facts (a b : Str) : ((ordP a b).1 = (ordP a b).2 ∨ ltS (ordP a b).1 (ordP a b).2 = true) ∧ (((ordP a b).1 = a ∧ (ordP a b).2 = b) ∨ ((ordP a b).1 = b ∧ (ordP a b).2 = a)) := by
  rcases ord_cases a b with ⟨e, c⟩ | ⟨e, c⟩
  · rw [e]; exact ⟨.inr c, .inl ⟨rfl, rfl⟩⟩
  · rw [e]
    refine ⟨?_, .inr ⟨rfl, rfl⟩⟩
    by_cases z : a = b
    · exact .inl z.symm
    · rcases ltS_tri z with h | h
      · rw [c] at h; cases h
      · exact .inr h
theorem Lab.start (ps : List Str) : Lab ps [] id := ⟨fun p h => h, fun _ _ => rfl, fun _ _ => .inl rfl, fun _ h => (nomatch h), fun _ _ _ _ => Iff.rfl⟩
theorem Lab.step {ps : List Str} {ks : List (Str × Str)} {f : Str → Str} (h : Lab ps ks f) {k : Str × Str} (h1 : k.1 ∈ ps) (h2 : k.2 ∈ ps) : Lab ps (ks ++ [k]) (labS f k) := by
  obtain ⟨hle, hab⟩ := ord_facts (f k.1) (f k.2)
  have same : ∀ q, f q = f q := fun _ => rfl
  generalize hlo : (ordP (f k.1) (f k.2)).1 = lo at hle hab
  generalize hhi : (ordP (f k.1) (f k.2)).2 = hi at hle hab
  have S : ∀ p, labS f k p = if f p = hi then lo else f p := fun p => by unfold labS; rw [hlo, hhi]
  have loP : lo ∈ ps := hab.elim (fun z => z.1 ▸ h.inP _ h1) fun z => z.1 ▸ h.inP _ h2
  have floP : f lo = lo := hab.elim (fun z => z.1 ▸ h.idem _ h1) fun z => z.1 ▸ h.idem _ h2
  have Sk1 : labS f k k.1 = lo := by
    rw [S]
    rcases hab with ⟨a, b⟩ | ⟨a, b⟩
    · by_cases c : f k.1 = hi
      · rw [if_pos c]
      · rw [if_neg c, a]
    · rw [if_pos b.symm]
  have Sk2 : labS f k k.2 = lo := by
    rw [S]
    rcases hab with ⟨a, b⟩ | ⟨a, b⟩
    · rw [if_pos b.symm]
    · by_cases c : f k.2 = hi
      · rw [if_pos c]
      · rw [if_neg c, a]
  refine ⟨fun p hp => ?_, fun p hp => ?_, fun p hp => ?_, fun e he => ?_, fun L hL p hp => ?_⟩
  · rw [S]
    by_cases c : f p = hi
    · rw [if_pos c]; exact loP
    · rw [if_neg c]; exact h.inP p hp
  · rw [S p]
    by_cases c : f p = hi
    · rw [if_pos c, S, floP]
      by_cases d : lo = hi
      · rw [if_pos d]
      · rw [if_neg d]
    · rw [if_neg c, S, h.idem p hp, if_neg c]
  · rw [S]
    by_cases c : f p = hi
    · rw [if_pos c]
      rcases hle with d | d
      · rw [d, ← c]; exact h.low p hp
      · rcases h.low p hp with z | z
        · right; rw [← z, c]; exact d
        · right; exact ltS_trans d (by rw [← c]; exact z)
    · rw [if_neg c]; exact h.low p hp
  · rcases List.mem_append.mp he with he | he
    · rw [S, S, h.tie e he]
    · rw [List.mem_singleton.mp he, Sk1, Sk2]
  · have hL' : ∀ e ∈ ks, L e.1 ↔ L e.2 := fun e he => hL e (List.mem_append_left _ he)
    have hk : L k.1 ↔ L k.2 := hL k (List.mem_append_right _ (List.mem_singleton_self k))
    have b1 := h.back L hL' k.1 h1
    have b2 := h.back L hL' k.2 h2
    have hlh : L lo ↔ L hi := by
      rcases hab with ⟨a, b⟩ | ⟨a, b⟩
      · rw [a, b, ← b1, ← b2]; exact hk
      · rw [a, b, ← b1, ← b2]; exact hk.symm
    rw [S]
    by_cases c : f p = hi
    · rw [if_pos c, hlh, ← c]; exact h.back L hL' p hp
    · rw [if_neg c]; exact h.back L hL' p hp
end O8
/-! ### the law's groups, and the lone ties -/
namespace O8
theorem allS_nodup : ∀ l : List Str, l.Nodup → (allS l).Nodup := snoc_ind (fun _ => List.pairwise_singleton _ _) fun l p ih nd => by
  have nl : l.Nodup := (List.nodup_append.mp nd).1
  have np : p ∉ l := fun h => (List.nodup_append.mp nd).2.2 p h p (List.mem_singleton_self p) rfl
  rw [allS_snoc]
  refine List.nodup_append.mpr ⟨ih nl, (ih nl).map _ fun a b h z => h (List.append_cancel_right z), fun a ha b hb e => ?_⟩
  obtain ⟨c, _, rfl⟩ := List.mem_map.mp hb
  subst e
  exact np ((mem_allS.mp ha).subset (List.mem_append_right _ (List.mem_singleton_self p)))
theorem mem_lots {ps l : List Str} : l ∈ lotsS ps ↔ l.Sublist ps ∧ 0 < l.length ∧ l.length < ps.length := by
  unfold lotsS properB
  rw [(List.mergeSort_perm _ _).mem_iff, List.mem_filter, mem_allS, Bool.and_eq_true, decide_eq_true_iff, decide_eq_true_iff]
/-! one tie less -/
end O8
/-! ### lone ties -/
namespace O8
end O8
/-! ### x = {.. for ..}, on one line: the new dict under tuples is the def's own -/
/-! ### the def's own dict by a comprehension over a dict under tuples -/
section
variable {dc : Option Addr} {F0 H0 F H F' H' : Hp} {ρ : SEnv} {σ : L2.St}
theorem SInv.takeOwn {p : Addr} {o : HO} {x : D} {i : Nat} (I : SInv dc F0 H0 ρ σ F H) (e : Ext dc F H F' H') (np : H p = none) (hp : H' p = some o) (ho : OwnO dc F' o x) (nF : F' p = none) : SInv dc F0 H0 (ρ.set i (.own x)) (σ.set i (some (.ref p))) F' H' := by
  have n0 : H0 p = none := I.ext.free I.pre0 np
  have nd : dc ≠ some p := I.ext.pre.nd np
  have J := I.step e
  have old : ∀ {j : Nat} {y : D} {a : Addr}, ρ[j]? = some (.own y) → σ[j]? = some (some (.ref a)) → a ≠ p := fun {j y a} h g => by
    obtain ⟨a', u, h1, h2, _⟩ := I.owns j y h
    rw [g] at h1
    cases h1
    exact ne_of_none h2 np
  refine ⟨I.pre0, J.ext, by rw [List.length_set, List.length_set]; exact I.len, fun j y h => ?_, fun j y h => ?_, fun j k y z a h1 h2 h3 h4 => ?_⟩
  · rcases set_own h with ⟨_, z, _⟩ | ⟨hj, h⟩
    · cases z
    · rw [List.getElem?_set_ne hj]
      exact J.vals j y h
  · rcases set_own h with ⟨hj, z, hl⟩ | ⟨hj, h⟩
    · subst hj
      cases z
      exact ⟨p, o, List.getElem?_set_self (by rw [← I.len]; exact hl), hp, ho, nF, n0, nd⟩
    · rw [List.getElem?_set_ne hj]
      exact J.owns j y h
  · have key : ∀ {j : Nat} {y : D}, (ρ.set i (.own x))[j]? = some (.own y) → (σ.set i (some (.ref p)))[j]? = some (some (.ref a)) → (i = j ∧ a = p) ∨ (ρ[j]? = some (.own y) ∧ σ[j]? = some (some (.ref a)) ∧ a ≠ p) := fun {j y} h g => by
      rcases set_own h with ⟨hj, z, hl⟩ | ⟨hj, h⟩
      · subst hj
        rw [List.getElem?_set_self (by rw [← I.len]; exact hl)] at g
        cases g
        exact .inl ⟨rfl, rfl⟩
      · rw [List.getElem?_set_ne hj] at g
        exact .inr ⟨h, g, old h g⟩
    rcases key h1 h3 with ⟨e1, e2⟩ | ⟨e1, e2, e3⟩ <;> rcases key h2 h4 with ⟨g1, g2⟩ | ⟨g1, g2, g3⟩
    · exact e1.symm.trans g1
    · exact absurd e2 g3
    · exact absurd g2 e3
    · exact I.apart j k y z a e1 g1 e2 g2
def sOwnT (i : Nat) (d : DT) : DTS := fun E ρ => d (visD ρ) fun y => E.nx (ρ.set i (.own y))
variable {X : Cx} {kx vx tg iter : Expr} {ifs : List Expr} {scope : Scope} {own : List (Str × Nat)} {is : List Nat} {pos spos py : Pos} {g : DTG} {dt : DTB} {dk dv : DT}
end
local macro_rules | `(tactic| walk_at "dred7") => `(tactic| try simp only [sOwnT, sForK, sParL, sApp, sParDT, sPutKS, dDisp2, eq_self, iEnumD, iRngV, asRng_rng, intTwo_two, dDcS, dDcT, sRet, sSet, sIf, sSeq, sExpr, sAsg, sPar2, dCall, dCons, dNil, dLc, dLcK, dLc2, iSeq, iZipD, dVar, dB, d2, dC, dTup, dLst, dAnd, dOr, dNot, dAndV, dOrV, dNotV, dIf, dYes, dFn, dPr, dMt, dFld, retE, visD, startS, Sl.seen, setAllS,
  lcF, lcF2, gN, gsN, gsC, setAllD, wipeD, arg1_one, arg2_two, asSeq_lst, asSeq_tup, asSeq_lot, asTup_tup, asTup_lot, asLst_lst, asInt_int, asStr_str, asBl_bl, asIns_ins, asIns_made, asDT_dT, asDT_ties, asD_dK, asD_dT, asD_ties, pr2_two, onSome_some, dSub_lst, dSub_tup, dSub_dT, dSub_dK, dSub_pair0, dSub_pair1, dSub_ties, dSub_netp, dSub_nett, dGetO_pair, dGet_ties,
  dEq_int, dEq_str, dEq_bl, dNe_int, dNe_str, dNe_bl, dLt_str, dLt_int, dAdd_int, dAdd_lst, dAdd_tup, onZip_tup, onZip_lst, atI_two0, atI_two1, gTupD_tup, fld_places, fld_ties, look_pl, look_ti, dInA_strT, dInA_strL, dInA_strTup,
  List.map_cons, List.map_nil, List.length_cons, List.length_nil, List.replicate, List.cons_append, List.nil_append, List.append_nil, List.getElem?_cons_zero, List.getElem?_cons_succ, List.set_cons_zero, List.set_cons_succ, Nat.reduceAdd, Nat.reduceSub, Bool.false_xor, Bool.true_xor, Nat.sub_self, Nat.add_one_sub_one, reduceIte, if_true, if_false, true_and, and_true])
/-! ### nets that are changed (law k08) -/
section
variable {P : Program} {w : World} {K : PySem.W.Frag} {mg : Str → Option Value} {base : Heap} {C : Addr}
def spIntD : DSp := fun xs Q => ∃ i : Int, xs = [.int i] ∧ -1000 ≤ i ∧ i ≤ 1000 ∧ Q (.bl true)
theorem int_imp : ∀ vs H Q E, spD spIntD vs H Q E → spInt vs H Q E := fun vs H Q E ⟨dc, F, xs, p, r, i, e, h1, h2, q⟩ => by
  subst e
  cases r with
  | cons a b =>
  cases b
  cases a
  have hb : intB (.int i) = true := by
    show decide ((if i < 0 then -i else i) < topInt) = true
    have ht : (1001 : Int) < topInt := by decide +kernel
    refine decide_eq_true ?_
    split <;> omega
  refine ⟨.int i, rfl, .int i, ?_⟩
  rw [hb]
  exact q _ F H (.refl p) (.bl _)
namespace O8
abbrev posT (ts : Ties) : Ties := ts.filter fun e => decide (0 < e.2)
end O8
end
/-! ### dict([(k, v), ..]): a new dict, the keys texts or pairs of texts, none twice -/
section
variable {X : Cx} {dc : Option Addr}
theorem pairsT_reps {F : Hp} : ∀ {prs : List ((Str × Str) × D)} {vs : List V}, Reps dc F (prs.map fun p => .tup [pairD p.1, p.2]) vs → ∃ (bs : List Addr) (ws : List V), vs = bs.map V.ref ∧ Reps dc F (prs.map (·.2)) ws ∧ ws.length = prs.length ∧
    Paired (fun p kv => ∃ q, F p = some (.tup [.ref q, kv.2]) ∧ F q = some (.tup (kv.1.map kV))) bs ((prs.map fun p => kP p.1).zip ws)
  | [], _, h => by
    cases h
    exact ⟨[], [], rfl, .nil, rfl, .nil⟩
  | p :: r, _, h => by
    cases h with
    | cons h t =>
    obtain ⟨bs, ws, rfl, h2, h3, h4⟩ := pairsT_reps t
    cases h with
    | @tup b _ us eb rb =>
    cases rb with
    | @cons _ v1 _ _ r1 rb =>
    cases rb with
    | @cons _ v2 _ _ r2 rb =>
    cases rb
    unfold pairD at r1
    cases r1 with
    | @tup q _ qs eq rq =>
    cases rq with
    | cons q1 rq =>
    cases rq with
    | cons q2 rq =>
    cases rq
    cases q1
    cases q2
    exact ⟨b :: bs, v2 :: ws, rfl, .cons r2 h2, by rw [List.length_cons, List.length_cons, h3], .cons ⟨q, eb, eq⟩ h4⟩
theorem cd_dictT (hc : X.calm = true) (hu : X.A.units + 65 < cLine) : CallD X dc (.type "dict") (arg1 fun x Q => ∃ prs : List ((Str × Str) × D), x = .lst (prs.map fun p => .tup [pairD p.1, p.2]) ∧ (prs.map (·.1)).Nodup ∧ Q (.dT (prs.map fun p => kP p.1) (prs.map (·.2)))) :=
  .one (fun x P P' hP ⟨prs, a, b, q⟩ => ⟨prs, a, b, hP _ q⟩) (call_dictT hc (by omega)) fun F H x v Q p rx ⟨prs, ex, nd, h⟩ => by
    subst ex
    cases rx with
    | @lst a _ vs ef rr =>
    obtain ⟨bs, ws, rfl, rw', hwl, pr⟩ := pairsT_reps rr
    have lk : (prs.map fun p => kP p.1).length = ws.length := by rw [List.length_map, hwl]
    refine ⟨a, bs, (prs.map fun p => kP p.1).zip ws, rfl, p.sub _ _ ef, Paired.mapP pr fun b kv ⟨q, h1, h2⟩ => ⟨q, p.sub _ _ h1, p.sub _ _ h2⟩, fun q nq => ?_⟩
    have ek : mergeT [] ((prs.map fun p => kP p.1).zip ws) = (prs.map fun p => kP p.1).zip ws := by
      rw [mergeT_app, List.nil_append]
      rw [List.nil_append, List.map_fst_zip (Nat.le_of_eq lk)]
      have := nd
      rw [List.Nodup, List.pairwise_map] at this
      exact List.pairwise_map.mpr (this.imp fun h z => h (kP_inj' z))
    rw [ek]
    have e0 := (Ext.grow p (same_upd (H := H) (o := .dT ((prs.map fun p => kP p.1).zip ws)) nq)).close nq upd_same (.inl upd_same) (p.nd nq) (p.nf nq)
    exact h _ _ _ e0 (.dT upd_same lk (e0.reps rw'))
end
/-! ### == and != of lots, of lists of lots, of lists of texts -/
namespace O8
theorem py_lotsL (a : List (List Str)) : pyD (.lst (a.map lotD)) = some (.list (a.map lD)) := by
  rw [pyD, py_lots]
  rfl
/-- == and != told at once -/
theorem cmp_lotsL {a b : List (List Str)} {neg : Bool} {Q : D → Prop} (ha : ∀ l ∈ a, ∀ x ∈ l, PyData.strOk x = true) (hb : ∀ l ∈ b, ∀ x ∈ l, PyData.strOk x = true) (q : Q (.bl (neg ^^ decide (a = b)))) : dPy neg (.lst (a.map lotD)) (.lst (b.map lotD)) Q := by
  unfold dPy
  rw [py_lotsL, py_lotsL]
  refine ⟨shaped_lotsL ha, shaped_lotsL hb, ?_⟩
  rw [eqv_lotsL]
  exact q
end O8
/-! ### sorted(d), d a dict under pairs of texts -/
/-! ### sorted(range(..), key=lambda x: ys[x]) -/
/-! ### a lambda is made -/
/-! ### the rule -/
/-! ### .. by data, and a def whose code object is known -/
/-! ### a dict under texts or numbers that is walked -/
/-! ### two clauses over one dict under texts, locked meanwhile -/
/-! ### x = [.. for ..] that looks at the def's own dict -/
/-! ### {pair: v for pair in a tuple} -/
/-! ### break, continue -/
/-! ### pairs at a place (law k30) -/
section
namespace O30
end O30
end
/-! ### numbers of pairs (for k30 and its like): the first parting lot in the order of cuts has the least cut -/
namespace O30
end O30
/-! ### numbers of pairs by the masks in the order of their cuts -/
namespace O30
def cutM (ps : List Str) (ts : Ties) (m : Nat) : Int := cutT ts (lotA ps 0 m)
def prt (ps : List Str) (x : Int) (k : Str × Str) : Bool := parts (lotA ps 0 x.toNat) k
theorem filter_sub : ∀ {b ps : List Str}, b.Sublist ps → ps.Nodup → ps.filter (fun x => decide (x ∈ b)) = b := by
  intro b ps h
  induction h with
  | slnil => intro _; rfl
  | @cons l1 l2 a h ih =>
    intro nd
    rw [List.nodup_cons] at nd
    rw [List.filter_cons_of_neg (by simpa using fun z => nd.1 (h.subset z))]
    exact ih nd.2
  | @cons_cons l1 l2 a h ih =>
    intro nd
    rw [List.nodup_cons] at nd
    rw [List.filter_cons_of_pos (by simp)]
    congr 1
    refine Eq.trans (List.filter_congr fun x hx => ?_) (ih nd.2)
    have hne : x ≠ a := fun z => nd.1 (by rw [← z]; exact hx)
    simp [hne]
theorem lotA_mm {ps b : List Str} (nd : ps.Nodup) (hb : b.Sublist ps) : lotA ps 0 (mm ps b) = b := by
  have key : ∀ (qs : List Str) (k m : Nat), (∀ i x, qs[i]? = some x → (m.testBit (k + i) = decide (x ∈ b))) → lotA qs k m = qs.filter fun x => decide (x ∈ b) := by
    intro qs
    induction qs with
    | nil => intro k m _; rfl
    | cons x r ih =>
      intro k m h
      have h0 := h 0 x rfl
      rw [Nat.add_zero] at h0
      have hr := ih (k + 1) m (fun i y hy => by rw [show k + 1 + i = k + (i + 1) by omega]; exact h (i + 1) y hy)
      show (if m.testBit k = true then x :: lotA r (k + 1) m else lotA r (k + 1) m) = _
      rw [h0, hr, List.filter_cons]
  rw [key ps 0 (mm ps b) fun i x hx => by rw [Nat.zero_add, mm_bit, hx]; rfl]
  exact filter_sub hb nd
theorem mem_pairsOf' {ps : List Str} {k : Str × Str} : k ∈ pairsOf ps ↔ k.1 ∈ ps ∧ k.2 ∈ ps ∧ ltS k.1 k.2 = true := by
  unfold pairsOf
  rw [List.mem_flatMap]
  constructor
  · rintro ⟨x, hx, hz⟩
    obtain ⟨y, hy, rfl⟩ := List.mem_map.mp hz
    obtain ⟨a, b⟩ := List.mem_filter.mp hy
    exact ⟨hx, a, b⟩
  · rintro ⟨a, b, c⟩
    exact ⟨k.1, a, List.mem_map.mpr ⟨k.2, List.mem_filter.mpr ⟨b, c⟩, rfl⟩⟩
/-- the value that a walk over the masks d tells -/
def valD (ps : List Str) (ts : Ties) (d : List Int) (k : Str × Str) : Option Int := (d.find? fun x => prt ps x k).map fun x => cutM ps ts x.toNat
theorem mm_lotA {ps : List Str} {m : Nat} (nd : ps.Nodup) (hm : m < 2 ^ ps.length) : mm ps (lotA ps 0 m) = m := by
  refine bit_ext fun i => ?_
  rw [mm_bit]
  cases q : ps[i]? with
  | none =>
    have hi : ps.length ≤ i := List.getElem?_eq_none_iff.mp q
    rw [Nat.testBit_lt_two_pow (Nat.lt_of_lt_of_le hm (Nat.pow_le_pow_right (by decide) hi))]
    rfl
  | some x =>
    show decide (x ∈ lotA ps 0 m) = m.testBit i
    cases hb : m.testBit i with
    | true => exact decide_eq_true (mem_lotA.mpr ⟨i, q, by rw [Nat.zero_add]; exact hb⟩)
    | false =>
      refine decide_eq_false fun z => ?_
      obtain ⟨j, hj, h⟩ := mem_lotA.mp z
      have hij : i = j := by
        obtain ⟨hi, e1⟩ := List.getElem?_eq_some_iff.mp q
        obtain ⟨hj', e2⟩ := List.getElem?_eq_some_iff.mp hj
        have ee := e1.trans e2.symm
        rcases Nat.lt_trichotomy i j with z | z | z
        · exact absurd ee (List.pairwise_iff_getElem.mp nd i j hi hj' z)
        · exact z
        · exact absurd ee.symm (List.pairwise_iff_getElem.mp nd j i hj' hi z)
      rw [Nat.zero_add, ← hij, hb] at h
      cases h
/-- what the walk has found behind the masks d -/
structure Fnd (ps : List Str) (ts : Ties) (d : List Int) (fd : Ties) : Prop where
  nodup : (fd.map (·.1)).Nodup
  mem : ∀ k v, (k, v) ∈ fd ↔ k ∈ pairsOf ps ∧ valD ps ts d k = some v
theorem Fnd.key {ps : List Str} {ts : Ties} {d : List Int} {fd : Ties} (f : Fnd ps ts d fd) {k : Str × Str} : k ∈ fd.map (·.1) ↔ k ∈ pairsOf ps ∧ (valD ps ts d k).isSome = true := by
  rw [List.mem_map]
  constructor
  · rintro ⟨⟨k', v⟩, h, rfl⟩
    obtain ⟨a, b⟩ := (f.mem _ _).mp h
    exact ⟨a, by rw [b]; rfl⟩
  · rintro ⟨a, b⟩
    obtain ⟨v, hv⟩ := Option.isSome_iff_exists.mp b
    exact ⟨(k, v), (f.mem _ _).mpr ⟨a, hv⟩, rfl⟩
theorem Fnd.nil (ps : List Str) (ts : Ties) : Fnd ps ts [] [] := ⟨List.nodup_nil, fun k v => ⟨fun h => (nomatch h), fun ⟨_, h⟩ => nomatch h⟩⟩
end O30
/-! ### x = dict(list(d.items())) as the def's own dict; if that looks at it; x.pop(k) -/
section
variable {X : Cx} {dc : Option Addr} {e : Expr} {d : DT}
def sCopyT (i : Nat) (d : DT) : DTS := fun E ρ => d (visD ρ) fun x => asDTn x fun ks vs => E.nx (ρ.set i (.own (.dT ks vs)))
theorem ds_copyT {i : Nat} {x : Str} {p0 p1 p2 p3 p4 p5 pos py : Pos} (hN : X.N.Nodup) (hi : X.N[i]? = some x) (hx : Loc X.env.scope x) (hc : X.calm = true) (hu : X.A.units + 3 < cLine) (he : DE X dc e d) (gd : Gl X "dict") (md : X.mg "dict" = none) (gl : Gl X "list") (ml : X.mg "list" = none)
    (hbase : attributeBase e "items" X.env (eval e X.env) = eval e X.env := by rfl) (hline : (p4.endLine == p5.line) = true := by rfl)
    (hs : swapsWith (.Call (.Name "dict" p1) [.Call (.Name "list" p2) [.Call (.Attribute e "items" p4) [] [] p5] [] p3] [] p0) (some (.Name x py)) pos.line X.env = pure false := by rfl)
    (hf : X.fn x = true ∨ X.env.scope.names.lookup x = some .local := by first | exact .inl rfl | exact .inr rfl | assumption) :
    DS X dc (.Assign [.Name x py] (.Call (.Name "dict" p1) [.Call (.Name "list" p2) [.Call (.Attribute e "items" p4) [] [] p5] [] p3] [] p0) pos) (sCopyT i d) := by
  have m := he.mono
  obtain ⟨t, p, r⟩ := he.get
  refine ⟨fun E E' ρ l h => m _ _ _ (fun x h => asDTn.mono (fun _ _ h => l.nx _ h) h) h, _, ps_set hN hi hx (pe_callTy (call_dictT hc hu) gd md (by decide +kernel) (pa_cons (pe_callTy (call_listItR hc) gl ml (by decide +kernel) (pa_cons (pe_itemsR p hbase hline) pa_nil)) pa_nil)) hs hf, fun F0 H0 ρ σ F H E D' I L h => ?_⟩
  refine r I.ext.pre I.slots h fun x v F1 H1 h e1 r1 => ?_
  obtain ⟨ks, xs, rfl, nd, q⟩ := h.inv
  cases r1 with
  | @dT a _ _ vs ef l rr =>
    have rd : Rd H1 a (.dT (ks.zip vs)) := e1.pre.sub _ _ ef
    refine ⟨a, _, rfl, rd, fun vw nv => ?_⟩
    have g1 := same_upd (H := H1) (o := L2.DX.itemsO vw a) nv
    have rd2 : Rd (upd H1 vw (L2.DX.itemsO vw a)) a (.dT (ks.zip vs)) := rd.elim (fun h => .inl (g1 _ _ h)) fun ⟨o, h⟩ => .inr ⟨o, g1 _ _ h⟩
    refine ⟨vw, a, _, rfl, upd_same, rd2, fun H2 l2 ts sm nl el prs => ⟨l2, ts, _, rfl, el, prs, fun td ntd => ?_⟩⟩
    have g2 : Same H1 H2 := g1.trans sm
    rw [mergeT_nil (by rw [zip_keys _ _ l]; exact nd)]
    have I2 := (I.step e1).step (Ext.grow e1.pre g2)
    exact L.nx _ _ _ _ (I2.newOwn ntd (.dT l rr)) q
def sIfPeek (i : Nat) (c : DTB) (s u : DTS) : DTS := fun E ρ => ∃ ks vs, ρ[i]? = some (.own (.dT ks vs)) ∧ c (visD (ρ.set i (.val (.dT ks vs)))) fun b => if b = true then s E ρ else u E ρ
theorem ds_ifPeek {i : Nat} {c : Expr} {dcn : DTB} {p q : List Stmt} {s u : DTS} {pos : Pos} (hc : DC X dc c dcn) (h1 : DSs X dc p s) (h2 : DSs X dc q u) : DS X dc (.If c p q pos) (sIfPeek i dcn s u) := by
  have m := hc.mono
  obtain ⟨t0, p0, r0⟩ := hc.get
  obtain ⟨m1, t1, p1, r1⟩ := h1
  obtain ⟨m2, t2, p2, r2⟩ := h2
  refine ⟨fun E E' ρ l ⟨ks, vs, a, h⟩ => ⟨ks, vs, a, m _ _ _ (fun b h => ?_) h⟩, _, ps_if p0 p1 p2, fun F0 H0 ρ σ F H E D' I L ⟨ks, vs, hi, h⟩ => ?_⟩
  · cases b with
    | true => exact iteT (m1 _ _ _ l (by simpa using h))
    | false => exact iteF (m2 _ _ _ l (by simpa using h))
  · obtain ⟨F', J, back⟩ := own_peek I hi
    refine r0 J.ext.pre J.slots h fun b F1 H1 h e1 => ?_
    obtain ⟨F2, I2, _⟩ := back (x := .non) (v := .non) e1 .non rfl
    cases b with
    | true =>
      have h' : s E ρ := by simpa using h
      exact iteT (r1 _ _ _ _ _ _ _ _ I2 L h')
    | false =>
      have h' : u E ρ := by simpa using h
      exact iteF (r2 _ _ _ _ _ _ _ _ I2 L h')
/-! without a key -/
def dkK (ks : List (List Key)) (k : List Key) : List (List Key) := ks.filter fun a => decide (a ≠ k)
def dkV : List (List Key) → List D → List Key → List D
  | a :: ks, v :: vs, k => if a ≠ k then v :: dkV ks vs k else dkV ks vs k
  | _, _, _ => []
theorem drop_own {F : Hp} {k : List Key} : ∀ {ks : List (List Key)} {vs : List D} {ws : List V}, ks.length = ws.length → Reps dc F vs ws → ∃ ws', dropK (ks.zip ws) k = (dkK ks k).zip ws' ∧ (dkK ks k).length = ws'.length ∧ Reps dc F (dkV ks vs k) ws'
  | [], vs, [], _, _ => ⟨[], rfl, rfl, by cases vs <;> exact .nil⟩
  | [], _, _ :: _, h, _ => by simp at h
  | _ :: _, _, [], h, _ => by simp at h
  | a :: ks, v :: vs, w :: ws, h, .cons r t => by
    obtain ⟨ws', e1, e2, e3⟩ := drop_own (k := k) (ks := ks) (by simpa using h) t
    unfold dropK dkK at e1 ⊢
    unfold dkK at e2
    by_cases c : a ≠ k
    · refine ⟨w :: ws', ?_, ?_, ?_⟩
      · rw [List.zip_cons_cons, List.filter_cons_of_pos (p := fun kv : List Key × V => decide (kv.1 ≠ k)) (a := (a, w)) (decide_eq_true c), List.filter_cons_of_pos (p := fun a => decide (a ≠ k)) (decide_eq_true c), List.zip_cons_cons, e1]
      · rw [List.filter_cons_of_pos (p := fun a => decide (a ≠ k)) (decide_eq_true c), List.length_cons, List.length_cons, e2]
      · rw [dkV, if_pos c]
        exact .cons r e3
    · refine ⟨ws', ?_, ?_, ?_⟩
      · rw [List.zip_cons_cons, List.filter_cons_of_neg (by simpa using c), List.filter_cons_of_neg (by simpa using c), e1]
      · rw [List.filter_cons_of_neg (by simpa using c), e2]
      · rw [dkV, if_neg c]
        exact e3
theorem val_zip {k : List Key} : ∀ {ks : List (List Key)} {ws : List V}, ks.length = ws.length → k ∈ ks → ∃ v, valV (ks.zip ws) k = some v
  | [], _, _, h => by cases h
  | _ :: _, [], h, _ => by simp at h
  | a :: ks, w :: ws, h, hk => by
    unfold valV
    rw [List.zip_cons_cons]
    by_cases c : a = k
    · exact ⟨w, by rw [List.find?_cons_of_pos (p := fun kv : List Key × V => decide (kv.1 = k)) (a := (a, w)) (decide_eq_true c)]; rfl⟩
    · rw [List.find?_cons_of_neg (p := fun kv : List Key × V => decide (kv.1 = k)) (a := (a, w)) (by simpa using c)]
      exact val_zip (by simpa using h) ((List.mem_cons.mp hk).resolve_left fun z => c z.symm)
def sPopT (i : Nat) (dk : DT) : DTS := fun E ρ => ∃ ks vs, ρ[i]? = some (.own (.dT ks vs)) ∧ dk (visD ρ) fun x => ∃ kk, keyT x = some kk ∧ kk ∈ ks ∧ E.nx (ρ.set i (.own (.dT (dkK ks kk) (dkV ks vs kk))))
theorem ds_popT {i : Nat} {x y : Str} {dk : DT} {pn pk pa pc pos : Pos} (hu : X.A.units + 3 < cLine) (hN : X.N[i]? = some x) (hv : Vis X.env.scope x) (hk : DE X dc (.Name y pk) dk) (hline : (pa.endLine == pc.line) = true := by rfl) (hdb : (x == ("__debug__" : Str)) = false := by decide) (hcd : (x == ("__classdict__" : Str)) = false := by decide)
    (hs : swapsWith (.Call (.Attribute (.Name x pn) "pop" pa) [.Name y pk] [] pc) none pos.line X.env = pure false := by rfl) :
    DS X dc (.Expr (.Call (.Attribute (.Name x pn) "pop" pa) [.Name y pk] [] pc) pos) (sPopT i dk) := by
  have mk := hk.mono
  obtain ⟨t1, p1, r1⟩ := hk.get
  refine ⟨fun E E' ρ l ⟨ks, vs, a, h⟩ => ⟨ks, vs, a, mk _ _ _ (fun k ⟨kk, b, c, e⟩ => ⟨kk, b, c, l.nx _ e⟩) h⟩, _, ps_expr (pe_bm PySem.F.plainAttrs_dict PySem.F.slot_dict_pop PySem.F.type_dict_pop (mt_popT1 hu) (pe_var (pos := pn) hN hv hdb hcd) (pa_cons p1 pa_nil) (hline := hline)) hs, fun F0 H0 ρ σ F H E D' I L ⟨ks, vs, hi, h⟩ => ?_⟩
  obtain ⟨a0, o0, hs0, ha0, ho0, _, _, _⟩ := I.owns i _ hi
  refine ⟨.ref a0, hs0, .inr (.inr (.inl ⟨rfl, .inr ?_⟩)), ?_⟩
  · generalize hx : D.dT ks vs = xx at ho0
    cases ho0 with
    | lst _ => cases hx
    | dK _ _ => cases hx
    | dT _ _ => exact ⟨_, ha0⟩
  refine r1 I.ext.pre I.slots h fun k u F3 H3 h e2 q3 => ?_
  have I2 := I.step e2
  obtain ⟨kk, hk, hm, h⟩ := h
  obtain ⟨a', o', hs', ha', ho', nF, n0, nd'⟩ := I2.owns i _ hi
  rw [hs0] at hs'
  cases hs'
  generalize hx : D.dT ks vs = xx at ho'
  cases ho' with
  | lst _ => cases hx
  | dK _ _ => cases hx
  | @dT ks' ws vs' l rr =>
  cases hx
  cases q3 with
  | @tup b xs us eb rb =>
    have hu' := Reps.keysOf rb hk
    subst hu'
    obtain ⟨v, hv'⟩ := val_zip l hm
    obtain ⟨ws', d1, d2, d3⟩ := drop_own (k := kk) l rr
    refine ⟨a0, _, kk, b, v, rfl, rfl, ha', I2.ext.pre.sub _ _ eb, hv', ?_⟩
    rw [d1]
    exact L.nx _ _ _ _ (I2.put hi hs0 nF n0 nd' (.dT d2 d3)) h
  | _ => cases hk
end
/-! ### the law's own defs (k30) -/
abbrev s__law_pairs : Stmt := topS 52
theorem sc__law_pairs : FnScope ["places", "found", "one", "other"] ["places"] (defScope s__law_pairs) := ⟨rfl, rfl, rfl, by decide +kernel, rfl, by decide +kernel, by decide +kernel⟩
abbrev s__law_with : Stmt := topS 53
theorem sc__law_with : FnScope ["net", "pair", "more", "ties"] ["net", "pair", "more"] (defScope s__law_with) := ⟨rfl, rfl, rfl, by decide +kernel, rfl, by decide +kernel, by decide +kernel⟩
section
variable {P : Program} {w : World} {K : PySem.W.Frag} {mg : Str → Option Value} {base : Heap} {C : Addr}
namespace O30
def spLawPairs : DSp := fun xs Q => ∃ ps : List Str, xs = [.lst (ps.map D.str)] ∧ ps.length ≤ 30 ∧ Q (.lst ((pairsOf ps).map pairD))
theorem ok__law_pairs {f : Addr} {fd : FuncData} {k : Nat} (F : Fun K "_law_pairs" "_law_pairs" s__law_pairs f fd)  : FnOk P w K mg base CX0 (k + 1) f fd ["places"] (spD spLawPairs) := by
  refine fnD_ok F sc__law_pairs (fun xs Q h => ?_) (fun dc cdv A outer s0 H E hr =>
    (dss_cons (ds_set (i := 1) sc__law_pairs.nd rfl (by first | exact Or.inl rfl | exact Or.inr rfl) (de_lst da_nil))
      (dss_cons (ds_for PassesOwn.never rfl (di_seq (de_var 0)) (dg_name (i := 2) sc__law_pairs.nd rfl (by first | exact Or.inl rfl | exact Or.inr rfl)) (dss_one (ds_set (i := 1) sc__law_pairs.nd rfl (by first | exact Or.inl rfl | exact Or.inr rfl) (de_op opd_add (de_var 1) (de_lc (own := [("other", 3)]) rfl sc__law_pairs.nd (di_seq (de_var 0)) (blkOk_by (N := ["places", "found", "one", "other"]) (sc := defScope s__law_pairs) (by decide +kernel)) (fun _ _ _ _ _ => (dg_name (i := 3) sc__law_pairs.nd rfl (Or.inl rfl))) (fun _ _ _ _ _ => (dts_one (dc_cmp opd_lt (de_var 2) (de_var 3) (nomark _)))) (fun _ _ _ _ _ => (de_tup (da_cons (de_var 2) (da_cons (de_var 3) da_nil)))) (by decide))))))
      (dss_one (ds_ret (de_var 1)))))) (fun xs Q h => ?_)
  · obtain ⟨ps, rfl, _⟩ := h; rfl
  · obtain ⟨ps, rfl, hl, q⟩ := h
    walk_at "dred7"
    refine ⟨by decide, ?_⟩
    unfold sFor
    walk_at "dred7"
    have big : (1000 : Nat) < sizeLine := by decide
    have pe : ∀ d : List Str, (d.flatMap fun x => (ps.filter fun y => ltS x y).map fun y => (x, y)).length ≤ d.length * ps.length := fun d => pairsOf_len d ps
    refine dFor_go (fun d ρ => ∃ s2 s3, ρ = [Sl.val (D.lst (ps.map D.str)), .val (.lst ((d.flatMap fun x => (ps.filter fun y => ltS x y).map fun y => (x, y)).map pairD)), s2, s3]) ⟨.emp, .emp, rfl⟩ (fun d x r e ρ ⟨s2, s3, hρ⟩ E2 hE hrt => ?_) (fun ρ ⟨s2, s3, hρ⟩ => ?_)
    · subst hρ
      walk_at "dred7"
      refine ⟨by rw [List.length_map]; omega, ?_⟩
      refine lcL_filter (g := fun y => pairD (x, y)) (c := fun y => ltS x y) (fun b hb K2 hk2 => ?_) ?_
      · walk_at "dred7"
        by_cases c : ltS x b = true
        · rw [if_pos c] at hk2 ⊢
          exact ⟨by decide, hk2⟩
        · rw [if_neg c] at hk2 ⊢
          exact hk2
      · walk_at "dred7"
        have dl : d.length ≤ ps.length := by rw [e, List.length_append]; omega
        have h1 := pe d
        have h2 : d.length * ps.length ≤ 30 * 30 := Nat.mul_le_mul (by omega) hl
        have h3 := List.length_filter_le (fun y => ltS x y) ps
        refine ⟨by rw [List.length_map, List.length_map]; omega, hE _ ⟨.val (.str x), s3, ?_⟩⟩
        have ee : (d ++ [x]).flatMap (fun x => (ps.filter fun y => ltS x y).map fun y => (x, y)) = (d.flatMap fun x => (ps.filter fun y => ltS x y).map fun y => (x, y)) ++ (ps.filter fun y => ltS x y).map fun y => (x, y) := by
          rw [List.flatMap_append, List.flatMap_singleton]
        rw [ee, List.map_append, List.map_map]
        rfl
    · subst hρ
      walk_at "dred7"
      exact q
theorem drop_ties (ts : Ties) (k : Str × Str) : D.dT (dkK (ts.map fun e => kP e.1) (kP k)) (dkV (ts.map fun e => kP e.1) (ts.map fun e => D.int e.2) (kP k)) = tiesD (ts.filter fun e => decide (e.1 ≠ k)) := by
  unfold tiesD dkK
  congr 1
  · rw [List.filter_map]
    congr 1
    exact List.filter_congr fun e _ => decide_eq_decide.mpr ⟨fun h z => h (congrArg kP z), fun h z => h (kP_inj' z)⟩
  · induction ts with
    | nil => rfl
    | cons e r ih =>
      rw [List.map_cons, List.map_cons, dkV, ih]
      by_cases c : e.1 = k
      · rw [if_neg (fun z => z (congrArg kP c)), List.filter_cons_of_neg (by simpa using c)]
      · rw [if_pos (fun z => c (kP_inj' z)), List.filter_cons_of_pos (by simpa using c)]
        rfl
def withT (ts : Ties) (k : Str × Str) (m : Int) : Ties := if getT ts k + m = 0 then (putT ts k (getT ts k + m)).filter (fun e => decide (e.1 ≠ k)) else putT ts k (getT ts k + m)
def spWithD : DSp := fun xs Q => ∃ ps ts k m, xs = [netD ps ts, pairD k, .int m] ∧ (ts.map (·.1)).Nodup ∧ ts.length ≤ 100 ∧ Q (netD ps (withT ts k m))
theorem ok__law_with {f : Addr} {fd : FuncData} {k : Nat} (F : Fun K "_law_with" "_law_with" s__law_with f fd) (m_dict : mg "dict" = none) (m_list : mg "list" = none) : FnOk P w K mg base CX0 (k + 1) f fd ["net", "pair", "more"] (spD spWithD) := by
  refine fnD_ok F sc__law_with (fun xs Q h => ?_) (fun dc cdv A outer s0 H E hr =>
    (dss_cons (ds_copyT (i := 3) sc__law_with.nd rfl (by first | exact Or.inl rfl | exact Or.inr rfl) rfl (room3 hr) (de_sub (hu_of hr) (de_var 0) de_str) (by rfl) m_dict (by rfl) m_list)
      (dss_cons (ds_putO (i := 3) (hu_of hr) rfl (by first | exact Or.inl rfl | exact Or.inr rfl | exact Or.inr (Or.inl rfl) | exact Or.inr (Or.inr rfl) | rfl) (de_var 1) (de_op opd_add (de_get2 (hu_of hr) (de_var 3) (de_var 1) de_int ⟨by rfl, by rfl, by rfl, by rfl⟩) (de_var 2)))
      (dss_cons (ds_ifPeek (i := 3) (dc_cmp (opd_eq (hr.units)) (de_sub (hu_of hr) (de_var 3) (de_var 1)) de_int (nomark _)) (dss_one (ds_popT (i := 3) (room3 hr) rfl (by first | exact Or.inl rfl | exact Or.inr rfl | exact Or.inr (Or.inl rfl) | exact Or.inr (Or.inr rfl) | rfl) (de_var 1))) dss_nil)
      (dss_freeze 3 (dss_one (ds_ret (de_disp2 (de_callTy cd_list (by rfl) m_list (by decide +kernel) (da_cons (de_sub (hu_of hr) (de_var 0) de_str) da_nil)) (de_var 3) (by rfl))))))))) (fun xs Q h => ?_)
  · obtain ⟨ps, ts, a, m, rfl, _⟩ := h; rfl
  · obtain ⟨ps, ts, a, m, rfl, nd, hl, q⟩ := h
    walk_at "dred7"
    unfold sCopyT
    walk_at "dred7"
    show asDTn (tiesD ts) _
    refine ⟨nodup_kP nd, ?_⟩
    unfold sPutO
    walk_at "dred7"
    refine ⟨_, _, rfl, ?_⟩
    walk_at "dred7"
    rw [look_getD]
    walk_at "dred7"
    have small : ((ts.map fun e => kP e.1).length) < sizeLine := by rw [List.length_map]; exact Nat.lt_of_le_of_lt hl (by decide)
    refine ⟨rfl, kP a, rfl, small, ?_⟩
    rw [O12.putD_ties]
    generalize hv : getT ts a + m = v at q ⊢
    have nd2 := putT_nodup a v nd
    have mem : (a, v) ∈ putT ts a v := List.mem_of_find?_eq_some (find_put ts a v)
    unfold sIfPeek
    refine ⟨_, _, rfl, ?_⟩
    walk_at "dred7"
    refine O12.dSub_ties (x := (a, v)) nd2 mem ?_
    walk_at "dred7"
    unfold withT at q
    rw [hv] at q
    by_cases c : v = 0
    · rw [decide_eq_true c]
      rw [if_pos c] at q
      refine iteT ?_
      unfold sPopT
      refine ⟨_, _, rfl, ?_⟩
      walk_at "dred7"
      refine ⟨kP a, rfl, List.mem_map.mpr ⟨(a, v), mem, rfl⟩, ?_⟩
      walk_at "dred7"
      refine ⟨_, rfl, ?_⟩
      rw [drop_ties]
      exact q
    · rw [decide_eq_false c]
      rw [if_neg c] at q
      exact iteF ⟨_, rfl, q⟩
theorem withT_nodup {ts : Ties} (k : Str × Str) (m : Int) (nd : (ts.map (·.1)).Nodup) : ((withT ts k m).map (·.1)).Nodup := by
  have h := putT_nodup k (getT ts k + m) nd
  unfold withT
  split
  · rw [List.Nodup, List.pairwise_map] at h ⊢
    exact h.filter _
  · exact h
theorem withT_len (ts : Ties) (k : Str × Str) (m : Int) : (withT ts k m).length ≤ ts.length + 1 := by
  have h := putT_len ts k (getT ts k + m)
  unfold withT
  split
  · exact Nat.le_trans (List.length_filter_le _ _) h
  · exact h
end O30
end
/-! ### what law k08's turn leans on -/
theorem strOk_of {z : Str} (h : ∀ c ∈ z.cps.toList, c < 128) : PyData.strOk z = true := by
  unfold PyData.strOk
  rw [← Array.all_toList, List.all_eq_true]
  intro c hc
  have := h c hc
  exact decide_eq_true (by omega)
namespace O8
open O12
theorem goodB_perm {n : Int} {ps : List Str} {ts us : Ties} (p : us.Perm ts) (g : GoodB n ps ts) : GoodB n ps us :=
  ⟨fun e he => g.keys e (p.mem_iff.mp he), (p.map _).nodup_iff.mpr g.nodup, fun e he => g.pos e (p.mem_iff.mp he), by rw [int_sum_perm (p.map (·.2))]; exact g.sum⟩
theorem goodB_len {n : Int} {ps : List Str} {ts : Ties} (g : GoodB n ps ts) (hn : n ≤ 60) : ts.length ≤ 60 := by
  have h1 := g.sum
  have h2 : (ts.length : Int) ≤ (ts.map (·.2)).sum := by
    have hp := g.pos
    clear g h1
    induction ts with
    | nil => exact Int.le_refl _
    | cons e r ih =>
      have := hp e (List.mem_cons_self ..)
      have := ih fun x hx => hp x (List.mem_cons_of_mem _ hx)
      rw [List.map_cons, List.sum_cons, List.length_cons]
      omega
  omega
/-- one lot merged -/
theorem get_perm {a b : Ties} (p : a.Perm b) (nb : (b.map (·.1)).Nodup) (k : Str × Str) : getT a k = getT b k := by
  rw [← wsum_one ((p.map _).nodup_iff.mpr nb), ← wsum_one nb, wsum_perm _ p]
theorem goodB_filter {n : Int} {ps l : List Str} {ts : Ties} (c : (Str × Str) × Int → Bool) (g : GoodB n ps ts) (hc : ∀ e ∈ ts, c e = true → e.1.1 ∈ l ∧ e.1.2 ∈ l) : GoodB n l (ts.filter c) := by
  refine ⟨fun e he => ?_, ?_, fun e he => g.pos e (List.mem_filter.mp he).1, Int.le_trans ?_ g.sum⟩
  · obtain ⟨h1, h2⟩ := List.mem_filter.mp he
    exact ⟨(hc e h1 h2).1, (hc e h1 h2).2, (g.keys e h1).2.2⟩
  · have := g.nodup
    rw [List.Nodup, List.pairwise_map] at this ⊢
    exact this.filter _
  · have gp := g.pos
    clear hc g
    induction ts with
    | nil => exact Int.le_refl _
    | cons e r ih =>
      have h1 := gp e List.mem_cons_self
      have h2 := ih fun x hx => gp x (List.mem_cons_of_mem _ hx)
      by_cases z : c e = true
      · rw [List.filter_cons_of_pos z, List.map_cons, List.map_cons, List.sum_cons, List.sum_cons]; omega
      · rw [List.filter_cons_of_neg z, List.map_cons, List.sum_cons]; omega
end O8
/-! ### ties changed one by one (law k30) -/
namespace O30
open O8 O12
def stp (ts : Ties) (k : Str × Str) (m : Int) : Ties := posT (putT ts k (getT ts k + m))
theorem put_mem {ts : Ties} {k : Str × Str} {v : Int} (nd : (ts.map (·.1)).Nodup) {e : (Str × Str) × Int} (h : e ∈ putT ts k v) : e = (k, v) ∨ (e ∈ ts ∧ e.1 ≠ k) := by
  have nd2 := putT_nodup k v nd
  have mem : (k, v) ∈ putT ts k v := List.mem_of_find?_eq_some (find_put ts k v)
  by_cases c : e.1 = k
  · have h1 := getT_of nd2 h
    have h2 := getT_of nd2 mem
    rw [c] at h1
    exact .inl (Prod.ext c (h1.symm.trans h2))
  · rcases putT_keys_sub ts k v e h with ⟨z, _⟩ | z
    · exact absurd z c
    · exact .inr ⟨z, c⟩
theorem wsum_posT (c : Str × Str → Bool) : ∀ {ts : Ties}, (∀ e ∈ ts, 0 ≤ e.2) → wsum c (posT ts) = wsum c ts
  | [], _ => rfl
  | e :: r, h => by
    have ih := wsum_posT c (ts := r) fun x hx => h x (List.mem_cons_of_mem _ hx)
    have h0 := h e List.mem_cons_self
    unfold posT at ih ⊢
    by_cases z : 0 < e.2
    · rw [List.filter_cons_of_pos (p := fun e : (Str × Str) × Int => decide (0 < e.2)) (decide_eq_true z), wsum_cons, wsum_cons, ih]
    · rw [List.filter_cons_of_neg (p := fun e : (Str × Str) × Int => decide (0 < e.2)) (by simpa using z), wsum_cons, ih]
      have : e.2 = 0 := by omega
      rw [this]
      split <;> omega
theorem put_nn {ts : Ties} {k : Str × Str} {v : Int} (nd : (ts.map (·.1)).Nodup) (pos : ∀ e ∈ ts, 1 ≤ e.2) (h0 : 0 ≤ v) : ∀ e ∈ putT ts k v, 0 ≤ e.2 := fun e he => by
  rcases put_mem nd he with z | ⟨z, _⟩
  · rw [z]; exact h0
  · have := pos e z; omega
theorem posT_nodup {ts : Ties} (nd : (ts.map (·.1)).Nodup) : ((posT ts).map (·.1)).Nodup := by
  rw [List.Nodup, List.pairwise_map] at nd ⊢
  exact nd.filter _
theorem stp_wsum {ts : Ties} {k : Str × Str} {m : Int} (c : Str × Str → Bool) (nd : (ts.map (·.1)).Nodup) (pos : ∀ e ∈ ts, 1 ≤ e.2) (h0 : 0 ≤ getT ts k + m) : wsum c (stp ts k m) = wsum c ts + if c k = true then m else 0 := by
  unfold stp
  rw [wsum_posT c (put_nn nd pos h0), wsum_put c k _ nd]
  congr 1
  split <;> omega
theorem stp_nodup {ts : Ties} {k : Str × Str} {m : Int} (nd : (ts.map (·.1)).Nodup) : ((stp ts k m).map (·.1)).Nodup := posT_nodup (putT_nodup k _ nd)
theorem stp_get {ts : Ties} {k : Str × Str} {m : Int} (nd : (ts.map (·.1)).Nodup) (pos : ∀ e ∈ ts, 1 ≤ e.2) (h0 : 0 ≤ getT ts k + m) (j : Str × Str) : getT (stp ts k m) j = if j = k then getT ts k + m else getT ts j := by
  rw [← wsum_one (stp_nodup nd), stp_wsum _ nd pos h0, wsum_one nd]
  by_cases c : j = k
  · rw [if_pos c, if_pos (decide_eq_true c.symm), c]
  · rw [if_neg c, if_neg (by simpa using fun z => c z.symm)]
    omega
theorem sum_wsum (ts : Ties) : (ts.map (·.2)).sum = wsum (fun _ => true) ts := by
  unfold wsum
  rw [List.filter_eq_self.mpr fun _ _ => rfl]
theorem stp_good {n : Int} {ps : List Str} {ts : Ties} {k : Str × Str} {m : Int} (g : GoodB n ps ts) (hk : k.1 ∈ ps ∧ k.2 ∈ ps ∧ ltS k.1 k.2 = true) (h0 : 0 ≤ getT ts k + m) (hm : m ≤ 1) : GoodB (n + 1) ps (stp ts k m) := by
  refine ⟨fun e he => ?_, stp_nodup g.nodup, fun e he => ?_, ?_⟩
  · rcases put_mem g.nodup (List.mem_filter.mp he).1 with z | ⟨z, _⟩
    · rw [z]; exact hk
    · exact g.keys e z
  · have := of_decide_eq_true (List.mem_filter.mp he).2
    omega
  · rw [sum_wsum, stp_wsum _ g.nodup g.pos h0, if_pos rfl, ← sum_wsum]
    have := g.sum
    omega
/-- the net made (us) and the plain one (ts) tell the same -/
structure Trn (n : Int) (ps : List Str) (ts us : Ties) : Prop where
  gt : GoodB n ps ts
  gu : GoodB n ps us
  same : ∀ k, getT us k = getT ts k
theorem Trn.start {n : Int} {ps : List Str} {ts : Ties} (g : GoodB n ps ts) : Trn n ps ts (sortTi ts) := ⟨g, goodB_perm (sortTi_perm g.nodup) g, get_perm (sortTi_perm g.nodup) g.nodup⟩
theorem Trn.sort {n : Int} {ps : List Str} {ts us : Ties} (t : Trn n ps ts us) : Trn n ps ts (sortTi us) := ⟨t.gt, goodB_perm (sortTi_perm t.gu.nodup) t.gu, fun k => (get_perm (sortTi_perm t.gu.nodup) t.gu.nodup k).trans (t.same k)⟩
theorem Trn.step {n : Int} {ps : List Str} {ts us : Ties} (t : Trn n ps ts us) {k : Str × Str} {m : Int} (hk : k.1 ∈ ps ∧ k.2 ∈ ps ∧ ltS k.1 k.2 = true) (h0 : 0 ≤ getT ts k + m) (hm : m ≤ 1) : Trn (n + 1) ps (stp ts k m) (sortTi (stp us k m)) := by
  have h0' : 0 ≤ getT us k + m := by rw [t.same]; exact h0
  refine Trn.sort ⟨stp_good t.gt hk h0 hm, stp_good t.gu hk h0' hm, fun j => ?_⟩
  rw [stp_get t.gu.nodup t.gu.pos h0', stp_get t.gt.nodup t.gt.pos h0, t.same, t.same]
theorem Trn.eq {n : Int} {ps : List Str} {ts us : Ties} (t : Trn n ps ts us) : eqTies us (sortTi ts) = true := by
  have p := sortTi_perm t.gt.nodup
  have g := goodB_perm p t.gt
  exact eqTies_of t.gu.nodup g.nodup t.gu.pos g.pos fun k => (t.same k).trans (get_perm p t.gt.nodup k).symm
end O30
/-! ### Mader's theorem: a place with enough ties, none of which alone joins, has two that can be led past it -/
namespace Mader
section
variable {α : Type}
abbrev St (α : Type) := α → Bool
def i1 (b : Bool) : Int := if b then 1 else 0
abbrev Es (α : Type) := List ((α × α) × Int)
def W (E : Es α) (f : α × α → Int) : Int := (E.map fun e => f e.1 * e.2).sum
theorem W_cons (e : (α × α) × Int) (r : Es α) (f : α × α → Int) : W (e :: r) f = f e.1 * e.2 + W r f := by
  unfold W; rw [List.map_cons, List.sum_cons]
theorem W_add (E : Es α) (f g : α × α → Int) : W E (fun e => f e + g e) = W E f + W E g := by
  induction E with
  | nil => rfl
  | cons e r ih => rw [W_cons, W_cons, W_cons, ih, Int.add_mul]; omega
theorem W_mono {E : Es α} {f g : α × α → Int} (pos : ∀ e ∈ E, 1 ≤ e.2) (h : ∀ e ∈ E, f e.1 ≤ g e.1) : W E f ≤ W E g := by
  induction E with
  | nil => exact Int.le_refl _
  | cons e r ih =>
    rw [W_cons, W_cons]
    have a := ih (fun x hx => pos x (List.mem_cons_of_mem _ hx)) (fun x hx => h x (List.mem_cons_of_mem _ hx))
    have b := Int.mul_le_mul_of_nonneg_right (h e List.mem_cons_self) (show 0 ≤ e.2 from by have := pos e List.mem_cons_self; omega)
    omega
theorem W_nn {E : Es α} {f : α × α → Int} (pos : ∀ e ∈ E, 1 ≤ e.2) (h : ∀ e ∈ E, 0 ≤ f e.1) : 0 ≤ W E f := by
  have := W_mono (f := fun _ => 0) pos h
  have z : W E (fun _ => 0) = 0 := by
    clear pos h this
    induction E with
    | nil => rfl
    | cons e r ih => rw [W_cons, ih]; omega
  omega
theorem W_one {E : Es α} {f : α × α → Int} (pos : ∀ e ∈ E, 1 ≤ e.2) (h : ∀ e ∈ E, 0 ≤ f e.1) {e : (α × α) × Int} (he : e ∈ E) (h1 : 1 ≤ f e.1) : 1 ≤ W E f := by
  induction E with
  | nil => cases he
  | cons x r ih =>
    rw [W_cons]
    have pr := fun y hy => pos y (List.mem_cons_of_mem x hy)
    have hr := fun y hy => h y (List.mem_cons_of_mem x hy)
    have nn := W_nn pr hr
    rcases List.mem_cons.mp he with rfl | he
    · have p1 := pos e List.mem_cons_self
      have := Int.mul_le_mul h1 p1 (by omega) (by omega)
      omega
    · have a := ih pr hr he
      have b := Int.mul_nonneg (h x List.mem_cons_self) (show 0 ≤ x.2 from by have := pos x List.mem_cons_self; omega)
      omega
theorem W_zero {E : Es α} {f : α × α → Int} (h : ∀ e ∈ E, f e.1 = 0) : W E f = 0 := by
  induction E with
  | nil => rfl
  | cons x r ih => rw [W_cons, ih fun y hy => h y (List.mem_cons_of_mem x hy), h x List.mem_cons_self]; omega
def iS (X Y : St α) : St α := fun x => X x && Y x
def uS (X Y : St α) : St α := fun x => X x || Y x
def dS (X Y : St α) : St α := fun x => X x && !Y x
variable [DecidableEq α]
/-- the ties out of a set; those of them to s; those between two sets -/
def d (E : Es α) (X : St α) : Int := W E fun e => i1 (X e.1 != X e.2)
def ds (E : Es α) (s : α) (X : St α) : Int := W E fun e => i1 ((decide (e.1 = s) && X e.2) || (decide (e.2 = s) && X e.1))
def ee (E : Es α) (X Y : St α) : Int := W E fun e => i1 ((X e.1 && Y e.2) || (Y e.1 && X e.2))
/-- the ties from what is in both to what is in none -/
def ob (E : Es α) (X Y : St α) : Int := W E fun e => i1 ((X e.1 && Y e.1 && !X e.2 && !Y e.2) || (X e.2 && Y e.2 && !X e.1 && !Y e.1))
def co (s : α) (X : St α) : St α := fun x => !X x && !decide (x = s)
def nb (E : Es α) (s x : α) : Prop := ∃ e ∈ E, (e.1.1 = s ∧ e.1.2 = x) ∨ (e.1.1 = x ∧ e.1.2 = s)
structure Nt (Bp : Prop) (V : List α) (s : α) (E : Es α) (r : α → α → Int) (R : St α → Int) : Prop where
  sV : s ∉ V
  ends : ∀ e ∈ E, (e.1.1 ∈ V ∨ e.1.1 = s) ∧ (e.1.2 ∈ V ∨ e.1.2 = s) ∧ e.1.1 ≠ e.1.2
  pos : ∀ e ∈ E, 1 ≤ e.2
  sym : ∀ x y, r x y = r y x
  R1 : ∀ X : St α, ∀ x ∈ V, ∀ y ∈ V, X x = true → X y = false → r x y ≤ R X
  R2 : ∀ X : St α, (∃ x ∈ V, X x = true) → (∃ y ∈ V, X y = false) → ∃ x ∈ V, ∃ y ∈ V, X x = true ∧ X y = false ∧ R X = r x y
  cut : ∀ X : St α, X s = false → (∃ x ∈ V, X x = true) → (∃ y ∈ V, X y = false) → R X ≤ d E X
  br : Bp → ∀ X : St α, X s = false → (∃ x ∈ V, nb E s x ∧ X x = true) → 2 ≤ d E X
variable {Bp : Prop} {V : List α} {s : α} {E : Es α} {r : α → α → Int} {R : St α → Int}
theorem Nt.tr (N : Nt Bp V s E r R) (b : Bp) : Nt True V s E r R := { N with br := fun _ => N.br b }
def prop (V : List α) (s : α) (X : St α) : Prop := X s = false ∧ (∃ x ∈ V, X x = true) ∧ ∃ y ∈ V, X y = false
def tight (V : List α) (s : α) (E : Es α) (R : St α → Int) (X : St α) : Prop := prop V s X ∧ d E X ≤ R X
theorem W_eq {E : Es α} {f g : α × α → Int} (pos : ∀ e ∈ E, 1 ≤ e.2) (h : ∀ e ∈ E, f e.1 = g e.1) : W E f = W E g :=
  Int.le_antisymm (W_mono pos fun e he => Int.le_of_eq (h e he)) (W_mono pos fun e he => Int.le_of_eq (h e he).symm)
theorem sub_eq (pos : ∀ e ∈ E, 1 ≤ e.2) (X Y : St α) : d E X + d E Y = d E (iS X Y) + d E (uS X Y) + (ee E (dS X Y) (dS Y X) + ee E (dS X Y) (dS Y X)) := by
  unfold d ee
  rw [← W_add, ← W_add, ← W_add, ← W_add]
  refine W_eq pos fun e _ => ?_
  unfold iS uS dS i1
  generalize X e.1.1 = a; generalize X e.1.2 = b; generalize Y e.1.1 = c; generalize Y e.1.2 = g
  revert a b c g
  decide
theorem pos_eq (pos : ∀ e ∈ E, 1 ≤ e.2) (X Y : St α) : d E X + d E Y = d E (dS X Y) + d E (dS Y X) + (ob E X Y + ob E X Y) := by
  unfold d ob
  rw [← W_add, ← W_add, ← W_add, ← W_add]
  refine W_eq pos fun e _ => ?_
  unfold dS i1
  generalize X e.1.1 = a; generalize X e.1.2 = b; generalize Y e.1.1 = c; generalize Y e.1.2 = g
  revert a b c g
  decide
theorem i1_nn (b : Bool) : 0 ≤ i1 b := by cases b <;> decide
theorem ee_nn (pos : ∀ e ∈ E, 1 ≤ e.2) (X Y : St α) : 0 ≤ ee E X Y := W_nn pos fun _ _ => i1_nn _
theorem ob_nn (pos : ∀ e ∈ E, 1 ≤ e.2) (X Y : St α) : 0 ≤ ob E X Y := W_nn pos fun _ _ => i1_nn _
theorem N_pq (N : Nt Bp V s E r R) {e : (α × α) × Int} (he : e ∈ E) : (decide (e.1.1 = s) && decide (e.1.2 = s)) = false := by
  have h := (N.ends e he).2.2
  by_cases p : e.1.1 = s
  · by_cases q : e.1.2 = s
    · exact absurd (p.trans q.symm) h
    · rw [decide_eq_false q, Bool.and_false]
  · rw [decide_eq_false p, Bool.false_and]
theorem at_s {X : St α} (h : X s = false) (z : α) : (decide (z = s) && X z) = false := by
  by_cases p : z = s
  · rw [p, h, Bool.and_false]
  · rw [decide_eq_false p, Bool.false_and]
theorem ds_iu (N : Nt Bp V s E r R) (X Y : St α) : ds E s X + ds E s Y = ds E s (iS X Y) + ds E s (uS X Y) := by
  unfold ds
  rw [← W_add, ← W_add]
  refine W_eq N.pos fun e he => ?_
  have h := N_pq N he
  revert h
  unfold iS uS i1
  generalize X e.1.1 = a; generalize X e.1.2 = b; generalize Y e.1.1 = c; generalize Y e.1.2 = g
  generalize decide (e.1.1 = s) = p; generalize decide (e.1.2 = s) = q
  revert a b c g p q
  decide
theorem ds_d (N : Nt Bp V s E r R) (X Y : St α) : ds E s X = ds E s (dS X Y) + ds E s (iS X Y) := by
  unfold ds
  rw [← W_add]
  refine W_eq N.pos fun e he => ?_
  have h := N_pq N he
  revert h
  unfold iS dS i1
  generalize X e.1.1 = a; generalize X e.1.2 = b; generalize Y e.1.1 = c; generalize Y e.1.2 = g
  generalize decide (e.1.1 = s) = p; generalize decide (e.1.2 = s) = q
  revert a b c g p q
  decide
theorem d_co (N : Nt Bp V s E r R) {X : St α} (hX : X s = false) : d E (co s X) + ds E s X = d E X + ds E s (co s X) := by
  unfold ds d
  rw [← W_add, ← W_add]
  refine W_eq N.pos fun e he => ?_
  have h := N_pq N he
  have h1 := at_s hX e.1.1
  have h2 := at_s hX e.1.2
  revert h h1 h2
  unfold co i1
  generalize X e.1.1 = a; generalize X e.1.2 = b
  generalize decide (e.1.1 = s) = p; generalize decide (e.1.2 = s) = q
  revert a b p q
  decide
def al (s : α) : St α := fun x => !decide (x = s)
theorem ds_mono (N : Nt Bp V s E r R) {X Y : St α} (h : ∀ x ∈ V, X x = true → Y x = true) (hX : X s = false) : ds E s X ≤ ds E s Y := by
  unfold ds
  refine W_mono N.pos fun e he => ?_
  obtain ⟨a1, a2, _⟩ := N.ends e he
  have k : ∀ z, (z ∈ V ∨ z = s) → X z = true → Y z = true := fun z hz hx => by
    rcases hz with hz | rfl
    · exact h z hz hx
    · rw [hX] at hx; cases hx
  have k1 := k _ a1
  have k2 := k _ a2
  revert k1 k2
  unfold i1
  generalize X e.1.1 = a; generalize X e.1.2 = b; generalize Y e.1.1 = c; generalize Y e.1.2 = g
  generalize decide (e.1.1 = s) = p; generalize decide (e.1.2 = s) = q
  revert a b c g p q
  decide
theorem ds_one (N : Nt Bp V s E r R) {X : St α} {x : α} (hn : nb E s x) (hx : X x = true) : 1 ≤ ds E s X := by
  obtain ⟨e, he, h⟩ := hn
  refine W_one N.pos (fun _ _ => i1_nn _) he ?_
  rcases h with ⟨a, b⟩ | ⟨a, b⟩
  · rw [a, b, hx, decide_eq_true rfl]; cases (decide (x = s) && X s) <;> decide
  · rw [a, b, hx, decide_eq_true rfl]; cases (decide (x = s) && X s) <;> decide
theorem ds_zero (N : Nt Bp V s E r R) {X : St α} (h : ∀ x ∈ V, nb E s x → X x = false) : ds E s X = 0 := by
  refine W_zero fun e he => ?_
  obtain ⟨a1, a2, a3⟩ := N.ends e he
  by_cases p : e.1.1 = s
  · have q : e.1.2 ≠ s := fun z => a3 (p.trans z.symm)
    have := h e.1.2 (a2.resolve_right q) ⟨e, he, .inl ⟨p, rfl⟩⟩
    rw [this, decide_eq_false q]
    simp [i1]
  · by_cases q : e.1.2 = s
    · have := h e.1.1 (a1.resolve_right p) ⟨e, he, .inr ⟨rfl, q⟩⟩
      rw [this, decide_eq_false p]
      simp [i1]
    · rw [decide_eq_false p, decide_eq_false q]
      simp [i1]
def Cov (V : List α) (s : α) (E : Es α) (L : List (St α)) : Prop := ∀ u ∈ V, nb E s u → ∃ X ∈ L, X u = true
theorem d_ext (N : Nt Bp V s E r R) {X Y : St α} (h : ∀ x ∈ V, X x = Y x) (hs : X s = Y s) : d E X = d E Y := by
  unfold d
  refine W_eq N.pos fun e he => ?_
  obtain ⟨a1, a2, _⟩ := N.ends e he
  have k : ∀ z, (z ∈ V ∨ z = s) → X z = Y z := fun z hz => by
    rcases hz with hz | rfl
    · exact h z hz
    · exact hs
  rw [k _ a1, k _ a2]
theorem ds_ext (N : Nt Bp V s E r R) {X Y : St α} (h : ∀ x ∈ V, X x = Y x) (hs : X s = Y s) : ds E s X = ds E s Y := by
  unfold ds
  refine W_eq N.pos fun e he => ?_
  obtain ⟨a1, a2, _⟩ := N.ends e he
  have k : ∀ z, (z ∈ V ∨ z = s) → X z = Y z := fun z hz => by
    rcases hz with hz | rfl
    · exact h z hz
    · exact hs
  rw [k _ a1, k _ a2]
/-- many sets that meet in T alone, put together -/
theorem fold_le (N : Nt Bp V s E r R) {T : St α} (hT : T s = false) : ∀ (ys : List (St α)) (U : St α), U s = false → (∀ Y ∈ ys, Y s = false ∧ d E Y ≤ d E T + 1 ∧ ds E s T + 1 ≤ ds E s Y) → (∀ Y ∈ ys, ∀ x ∈ V, (U x && Y x) = T x) →
    ys.Pairwise (fun Y Z => ∀ x ∈ V, (Y x && Z x) = T x) → ∃ U' : St α, U' s = false ∧ d E U' - ds E s U' ≤ d E U - ds E s U ∧ ∀ x, U' x = true ↔ U x = true ∨ ∃ Y ∈ ys, Y x = true
  | [], U, hU, _, _, _ => ⟨U, hU, Int.le_refl _, fun x => ⟨.inl, fun h => h.resolve_right fun ⟨_, h, _⟩ => nomatch h⟩⟩
  | Y :: ys, U, hU, h1, h2, h3 => by
    obtain ⟨a, b, c⟩ := h1 Y List.mem_cons_self
    have hp := List.pairwise_cons.mp h3
    have se := sub_eq N.pos U Y
    have en := ee_nn N.pos (dS U Y) (dS Y U)
    have iu := ds_iu N U Y
    have ext : ∀ x ∈ V, iS U Y x = T x := fun x hx => h2 Y List.mem_cons_self x hx
    have exs : iS U Y s = T s := by unfold iS; rw [hU, hT]; rfl
    have e1 := d_ext N ext exs
    have e2 := ds_ext N ext exs
    obtain ⟨U', u1, u2, u3⟩ := fold_le N hT ys (uS U Y) (by unfold uS; rw [hU, a]; rfl) (fun Z hZ => h1 Z (List.mem_cons_of_mem _ hZ)) (fun Z hZ x hx => by
      have p := h2 Z (List.mem_cons_of_mem _ hZ) x hx
      have q := hp.1 Z hZ x hx
      unfold uS
      rw [Bool.and_or_distrib_right, p, q, Bool.or_self]) hp.2
    refine ⟨U', u1, by omega, fun x => ?_⟩
    rw [u3]
    unfold uS
    rw [Bool.or_eq_true]
    constructor
    · rintro ((h | h) | ⟨Z, hZ, h⟩)
      · exact .inl h
      · exact .inr ⟨Y, List.mem_cons_self, h⟩
      · exact .inr ⟨Z, List.mem_cons_of_mem _ hZ, h⟩
    · rintro (h | ⟨Z, hZ, h⟩)
      · exact .inl (.inl h)
      · rcases List.mem_cons.mp hZ with rfl | hZ
        · exact .inl (.inr h)
        · exact .inr ⟨Z, hZ, h⟩
theorem pairwise_of {β : Type} {Q : β → β → Prop} : ∀ {L : List β}, (∀ X Y rest, L.Perm (X :: Y :: rest) → Q X Y) → L.Pairwise Q
  | [], _ => .nil
  | Z :: L, h => List.pairwise_cons.mpr ⟨fun Y hY => by
    obtain ⟨A, B, rfl⟩ := List.append_of_mem hY
    exact h Z Y (A ++ B) (List.perm_middle.cons Z), pairwise_of fun X Y rest p => h X Y (Z :: rest) ((p.cons Z).trans ((List.Perm.swap X Z (Y :: rest)).trans ((List.Perm.swap Y Z rest).cons X)))⟩
/-- what all sets of the cover have when no two of them are of the second kind -/
structure Alf (V : List α) (s : α) (E : Es α) (r : α → α → Int) (R : St α → Int) (t : α) (T : St α) (L : List (St α)) : Prop where
  ts : T s = false
  tt : T t = true
  tr : R T = d E T
  x : ∀ X ∈ L, prop V s X ∧ d E X = R X + 1 ∧ ∀ x ∈ V, T x = true → X x = true
  two : ∀ X Y rest, L.Perm (X :: Y :: rest) → (∀ x ∈ V, (X x && Y x) = T x) ∧ (R X ≤ R T ∨ R Y ≤ R T)
  own : ∀ X ∈ L, ∃ u ∈ V, nb E s u ∧ X u = true ∧ T u = false
  cov : Cov V s E L
theorem Alf.ds2 (N : Nt Bp V s E r R) {t : α} {T : St α} {L : List (St α)} (a : Alf V s E r R t T L) (tV : t ∈ V) (tn : nb E s t) {X : St α} (hX : X ∈ L) : ds E s T + 1 ≤ ds E s X := by
  obtain ⟨u, uV, un, u1, u2⟩ := a.own X hX
  have e := ds_d N X T
  have h1 := ds_one N un (X := dS X T) (by unfold dS; rw [u1, u2]; rfl)
  have h2 : ds E s T ≤ ds E s (iS X T) := ds_mono N (fun x hx h => by unfold iS; rw [(a.x X hX).2.2 x hx h, h]; rfl) a.ts
  omega
/-- the whole cover has too small a cut -/
theorem star (N : Nt Bp V s E r R) {t : α} {T X1 : St α} {rest : List (St α)} (a : Alf V s E r R t T (X1 :: rest)) (tV : t ∈ V) (tn : nb E s t) (h : ∀ Y ∈ rest, R Y = R T) {x w : α} (xV : x ∈ V) (wV : w ∈ V) (hx : X1 x = true) (hw : ∀ Y ∈ X1 :: rest, Y w = false) (le : R X1 ≤ r x w) : False := by
  have m := fun Y (hY : Y ∈ rest) => a.x Y (List.mem_cons_of_mem X1 hY)
  obtain ⟨p1, e1, s1⟩ := a.x X1 List.mem_cons_self
  have pw := pairwise_of (L := X1 :: rest) (Q := fun Y Z => ∀ x ∈ V, (Y x && Z x) = T x) fun X Y rest' p => (a.two X Y rest' p).1
  obtain ⟨U, us, u2, u3⟩ := fold_le N a.ts rest X1 p1.1 (fun Y hY => ⟨(m Y hY).1.1, by rw [(m Y hY).2.1, h Y hY, a.tr]; exact Int.le_refl _, a.ds2 N tV tn (List.mem_cons_of_mem _ hY)⟩) (List.pairwise_cons.mp pw).1 (List.pairwise_cons.mp pw).2
  have xU : U x = true := (u3 x).mpr (.inl hx)
  have wU : U w = false := by
    cases h : U w with
    | false => rfl
    | true =>
      rcases (u3 w).mp h with h | ⟨Y, hY, h⟩
      · rw [hw X1 List.mem_cons_self] at h; cases h
      · rw [hw Y (List.mem_cons_of_mem _ hY)] at h; cases h
  have ws : w ≠ s := fun z => N.sV (z ▸ wV)
  have cs : co s U s = false := by unfold co; rw [decide_eq_true rfl, Bool.not_true, Bool.and_false]
  have cw : co s U w = true := by unfold co; rw [wU, decide_eq_false ws]; rfl
  have cx : co s U x = false := by unfold co; rw [xU]; rfl
  have k1 := N.R1 (co s U) w wV x xV cw cx
  have k2 := N.cut (co s U) cs ⟨w, wV, cw⟩ ⟨x, xV, cx⟩
  have k3 := d_co N us
  have k4 : ds E s (co s U) = 0 := ds_zero N fun y yV yn => by
    obtain ⟨Y, hY, hy⟩ := a.cov y yV yn
    have : U y = true := (u3 y).mpr (by
      rcases List.mem_cons.mp hY with rfl | hY
      · exact .inl hy
      · exact .inr ⟨Y, hY, hy⟩)
    unfold co; rw [this]; rfl
  have k5 := a.ds2 N tV tn (List.mem_cons_self (a := X1) (l := rest))
  have k6 := ds_one N tn a.tt
  have sy := N.sym x w
  omega
def prs (V : List α) : List (α × α) := V.flatMap fun x => V.map fun y => (x, y)
end
end Mader
/-! ### the fewest ends: what is least by one is least of all -/
namespace Few
open Mader
set_option linter.unusedSectionVars false
section
variable {α : Type} [DecidableEq α]
/-- the numbers of a set -/
def mS (V : List α) (m : α → Int) (X : St α) : Int := (V.map fun v => i1 (X v) * m v).sum
theorem mS_cons {v : α} {V : List α} {m : α → Int} {X : St α} : mS (v :: V) m X = i1 (X v) * m v + mS V m X := by
  unfold mS; rw [List.map_cons, List.sum_cons]
theorem mS_mono {m : α → Int} {X Y : St α} : ∀ {V : List α}, (∀ v ∈ V, 0 ≤ m v) → (∀ v ∈ V, X v = true → Y v = true) → mS V m X ≤ mS V m Y
  | [], _, _ => Int.le_refl _
  | v :: V, h, q => by
    rw [mS_cons, mS_cons]
    have a := mS_mono (X := X) (Y := Y) (fun x hx => h x (List.mem_cons_of_mem v hx)) (fun x hx => q x (List.mem_cons_of_mem v hx))
    have b := h v List.mem_cons_self
    have c := q v List.mem_cons_self
    unfold i1
    cases hx : X v with
    | false => cases Y v <;> simp <;> omega
    | true => rw [c hx]; simp; omega
theorem mS_nn {m : α → Int} {X : St α} : ∀ {V : List α}, (∀ v ∈ V, 0 ≤ m v) → 0 ≤ mS V m X
  | [], _ => Int.le_refl _
  | v :: V, h => by
    rw [mS_cons]
    have a := mS_nn (X := X) (fun x hx => h x (List.mem_cons_of_mem v hx))
    have b := h v List.mem_cons_self
    unfold i1
    cases X v <;> simp <;> omega
theorem mS_d {m : α → Int} {X Y : St α} : ∀ {V : List α}, mS V m X = mS V m (dS X Y) + mS V m (iS X Y)
  | [] => rfl
  | v :: V => by
    rw [mS_cons, mS_cons, mS_cons, mS_d (X := X) (Y := Y)]
    unfold dS iS i1
    cases X v <;> cases Y v <;> simp <;> omega
theorem mS_iu {m : α → Int} {X Y : St α} : ∀ {V : List α}, mS V m X + mS V m Y = mS V m (iS X Y) + mS V m (uS X Y)
  | [] => rfl
  | v :: V => by
    have := mS_iu (m := m) (X := X) (Y := Y) (V := V)
    rw [mS_cons, mS_cons, mS_cons, mS_cons, show iS X Y v = (X v && Y v) from rfl, show uS X Y v = (X v || Y v) from rfl]
    unfold i1
    cases X v <;> cases Y v <;> simp <;> omega
theorem mS_ext {m n : α → Int} {X Y : St α} : ∀ {V : List α}, (∀ v ∈ V, i1 (X v) * m v = i1 (Y v) * n v) → mS V m X = mS V n Y
  | [], _ => rfl
  | v :: V, h => by rw [mS_cons, mS_cons, h v List.mem_cons_self, mS_ext fun x hx => h x (List.mem_cons_of_mem v hx)]
def tt : St α := fun _ => true
def co (X : St α) : St α := fun x => !X x
def pt (v : α) : St α := fun x => decide (x = v)
theorem mS_co {m : α → Int} {X : St α} {V : List α} : mS V m tt = mS V m X + mS V m (co X) := by
  have a := mS_d (m := m) (X := tt) (Y := X) (V := V)
  have b : mS V m (dS tt X) = mS V m (co X) := mS_ext fun v _ => by unfold dS tt co; rw [Bool.true_and]
  have c : mS V m (iS tt X) = mS V m X := mS_ext fun v _ => by unfold iS tt; rw [Bool.true_and]
  omega
theorem mS_pt {m : α → Int} {v : α} : ∀ {V : List α}, V.Nodup → v ∈ V → mS V m (pt v) = m v
  | x :: V, nd, h => by
    obtain ⟨n1, n2⟩ := List.nodup_cons.mp nd
    rw [mS_cons]
    by_cases c : x = v
    · have z : mS V m (pt v) = 0 := by
        have : mS V m (pt v) = mS V m (fun _ => false) := mS_ext fun y hy => by
          unfold pt
          rw [decide_eq_false (fun e => n1 (by rw [c, ← e]; exact hy))]
        rw [this]
        clear n1 n2 nd h this c
        induction V with
        | nil => rfl
        | cons y V ih => rw [mS_cons, ih]; unfold i1; simp
      rw [z, c]
      unfold pt i1
      rw [decide_eq_true rfl]
      simp
    · have hv : v ∈ V := by
        rcases List.mem_cons.mp h with e | e
        · exact absurd e.symm c
        · exact e
      rw [mS_pt n2 hv]
      unfold pt i1
      rw [decide_eq_false c]
      simp
theorem mS_two {m : α → Int} {V : List α} {X : St α} {a : α} (nd : V.Nodup) (hm : ∀ v ∈ V, 0 ≤ m v) (ha : a ∈ V) (Xa : X a = true) : m a + mS V m (dS X (pt a)) = mS V m X := by
  have e := mS_d (m := m) (X := X) (Y := pt a) (V := V)
  have i : mS V m (iS X (pt a)) = m a := by
    rw [← mS_pt (m := m) nd ha]
    refine mS_ext fun v _ => ?_
    unfold iS pt
    by_cases c : v = a
    · rw [c, Xa, Bool.true_and]
    · rw [decide_eq_false c, Bool.and_false]
  omega
theorem mS_has {m : α → Int} {V : List α} {X : St α} {a : α} (nd : V.Nodup) (hm : ∀ v ∈ V, 0 ≤ m v) (ha : a ∈ V) (Xa : X a = true) : m a ≤ mS V m X := by
  have e := mS_two nd hm ha Xa
  have := mS_nn (m := m) (X := dS X (pt a)) hm
  omega
theorem mS_has2 {m : α → Int} {V : List α} {X : St α} {a b : α} (nd : V.Nodup) (hm : ∀ v ∈ V, 0 ≤ m v) (ha : a ∈ V) (hb : b ∈ V) (ne : b ≠ a) (Xa : X a = true) (Xb : X b = true) : m a + m b ≤ mS V m X := by
  have e := mS_two nd hm ha Xa
  have := mS_has (m := m) (X := dS X (pt a)) nd hm hb (by unfold dS pt; rw [Xb, decide_eq_false ne]; rfl)
  omega
/-- a set that has some place and lacks some -/
def prp (V : List α) (X : St α) : Prop := (∃ x ∈ V, X x = true) ∧ ∃ y ∈ V, X y = false
structure feas (V : List α) (E : Es α) (k : Int) (m : α → Int) : Prop where
  nn : ∀ v ∈ V, 0 ≤ m v
  ge : ∀ X : St α, prp V X → k ≤ d E X + mS V m X
def tgt (V : List α) (E : Es α) (k : Int) (m : α → Int) (X : St α) : Prop := prp V X ∧ d E X + mS V m X = k
def lst (V : List α) (E : Es α) (k : Int) (m : α → Int) : Prop := ∀ v ∈ V, 0 < m v → ∃ X, X v = true ∧ tgt V E k m X
theorem d_comp (E : Es α) (X : St α) : d E (co X) = d E X := by
  unfold d co
  congr 1
  funext e
  cases X e.1 <;> cases X e.2 <;> rfl
theorem prp_co {V : List α} {X : St α} (h : prp V X) : prp V (co X) := by
  obtain ⟨⟨x, hx, ex⟩, y, hy, ey⟩ := h
  exact ⟨⟨y, hy, by unfold co; rw [ey]; rfl⟩, x, hx, by unfold co; rw [ex]; rfl⟩
/-- a list of sets, no two of which meet -/
def apart (V : List α) (X Y : St α) : Prop := ∀ v ∈ V, ¬ (X v = true ∧ Y v = true)
def uL : List (St α) → St α
  | [] => fun _ => false
  | X :: r => uS X (uL r)
theorem mS_false {m : α → Int} : ∀ {V : List α}, mS V m (fun _ => false) = 0
  | [] => rfl
  | v :: V => by rw [mS_cons, mS_false]; unfold i1; simp
theorem sum_apart {V : List α} {m : α → Int} : ∀ {L : List (St α)}, L.Pairwise (apart V) → (L.map (mS V m)).sum = mS V m (uL L)
  | [], _ => mS_false.symm
  | X :: r, h => by
    obtain ⟨h1, h2⟩ := List.pairwise_cons.mp h
    rw [List.map_cons, List.sum_cons, sum_apart h2]
    have e := mS_iu (m := m) (X := X) (Y := uL r) (V := V)
    have z : mS V m (iS X (uL r)) = 0 := by
      rw [← mS_false (m := m) (V := V)]
      refine mS_ext fun v hv => ?_
      have : iS X (uL r) v = false := by
        clear h e h2
        unfold iS
        cases hX : X v with
        | false => rfl
        | true =>
          rw [Bool.true_and]
          induction r with
          | nil => rfl
          | cons Y r ih =>
            show (Y v || uL r v) = false
            rw [ih fun Z hZ => h1 Z (List.mem_cons_of_mem _ hZ)]
            cases hY : Y v with
            | false => rfl
            | true => exact absurd ⟨hX, hY⟩ (h1 Y List.mem_cons_self v hv)
      rw [this]
    show _ = mS V m (uS X (uL r))
    omega
theorem uL_mem {L : List (St α)} {v : α} (h : ∃ X ∈ L, X v = true) : uL L v = true := by
  obtain ⟨X, hX, e⟩ := h
  induction L with
  | nil => cases hX
  | cons Y r ih =>
    show (Y v || uL r v) = true
    rcases List.mem_cons.mp hX with rfl | hX
    · rw [e]; rfl
    · rw [ih hX, Bool.or_true]
/-- two tight sets that meet: one set, or all is told -/
theorem tgt_union {V : List α} {E : Es α} {k : Int} {m : α → Int} {X Y : St α} (pos : ∀ e ∈ E, 1 ≤ e.2) (f : feas V E k m) (hX : tgt V E k m X) (hY : tgt V E k m Y) {v : α} (hv : v ∈ V) (Xv : X v = true) (Yv : Y v = true) {y : α} (hy : y ∈ V) (Xy : X y = false) (Yy : Y y = false) : tgt V E k m (uS X Y) := by
  have pi : prp V (iS X Y) := ⟨⟨v, hv, by unfold iS; rw [Xv, Yv]; rfl⟩, y, hy, by unfold iS; rw [Xy]; rfl⟩
  have pu : prp V (uS X Y) := ⟨⟨v, hv, by unfold uS; rw [Xv]; rfl⟩, y, hy, by unfold uS; rw [Xy, Yy]; rfl⟩
  have a := f.ge _ pi
  have b := f.ge _ pu
  have s := sub_eq pos X Y
  have nn := ee_nn pos (dS X Y) (dS Y X)
  have e := mS_iu (m := m) (X := X) (Y := Y) (V := V)
  exact ⟨pu, by have := hX.2; have := hY.2; omega⟩
theorem tgt_diff {V : List α} {E : Es α} {k : Int} {m n : α → Int} {X Y : St α} (pos : ∀ e ∈ E, 1 ≤ e.2) (f : feas V E k m) (g : feas V E k n) (hX : tgt V E k m X) (hY : tgt V E k m Y) (all : ∀ y ∈ V, X y = true ∨ Y y = true) : mS V m tt ≤ mS V n tt := by
  obtain ⟨⟨_, x, hx, ex⟩, tX⟩ := hX
  obtain ⟨⟨_, y, hy, ey⟩, tY⟩ := hY
  have Yx : Y x = true := by
    rcases all x hx with h | h
    · rw [ex] at h; cases h
    · exact h
  have Xy : X y = true := by
    rcases all y hy with h | h
    · exact h
    · rw [ey] at h; cases h
  have p1 : prp V (dS X Y) := ⟨⟨y, hy, by unfold dS; rw [Xy, ey]; rfl⟩, x, hx, by unfold dS; rw [ex]; rfl⟩
  have p2 : prp V (dS Y X) := ⟨⟨x, hx, by unfold dS; rw [Yx, ex]; rfl⟩, y, hy, by unfold dS; rw [ey]; rfl⟩
  have s := pos_eq pos X Y
  have nn := ob_nn pos X Y
  have a1 := f.ge _ p1
  have a2 := f.ge _ p2
  have b1 := g.ge _ p1
  have b2 := g.ge _ p2
  have e1 := mS_d (m := m) (X := X) (Y := Y) (V := V)
  have e2 := mS_d (m := m) (X := Y) (Y := X) (V := V)
  have e3 : mS V m (iS Y X) = mS V m (iS X Y) := mS_ext fun v _ => by unfold iS; rw [Bool.and_comm]
  have nI := mS_nn (X := iS X Y) f.nn
  have u := mS_iu (m := m) (X := X) (Y := Y) (V := V)
  have eu : mS V m (uS X Y) = mS V m tt := mS_ext fun v hv => by
    have : uS X Y v = true := by
      unfold uS
      rcases all v hv with h | h <;> rw [h]
      · rfl
      · rw [Bool.or_true]
    rw [this]
    rfl
  have w : mS V n (dS X Y) + mS V n (dS Y X) ≤ mS V n tt := by
    have t := mS_iu (m := n) (X := dS X Y) (Y := dS Y X) (V := V)
    have z := mS_nn (X := iS (dS X Y) (dS Y X)) g.nn
    have le := mS_mono (m := n) (X := uS (dS X Y) (dS Y X)) (Y := tt) g.nn (fun _ _ _ => rfl)
    have zz : mS V n (iS (dS X Y) (dS Y X)) = 0 := by
      rw [← mS_false (m := n) (V := V)]
      exact mS_ext fun v _ => by unfold iS dS; cases X v <;> cases Y v <;> rfl
    omega
  omega
/-- THE THEOREM: what no one can lower is least of all -/
theorem least {V : List α} {E : Es α} {k : Int} {m n : α → Int} (pos : ∀ e ∈ E, 1 ≤ e.2) (f : feas V E k m) (l : lst V E k m) (g : feas V E k n) : mS V m tt ≤ mS V n tt := by
  have main : ∀ (c : Nat) (L : List (St α)), L.length = c → (∀ X ∈ L, tgt V E k m X) → (∀ v ∈ V, 0 < m v → ∃ X ∈ L, X v = true) → mS V m tt ≤ mS V n tt := by
    intro c
    induction c using Nat.strongRecOn with
    | _ c ih =>
      intro L hl ht hc
      by_cases pw : L.Pairwise (apart V)
      · have a := sum_apart (m := m) pw
        have b := sum_apart (m := n) pw
        have e1 : mS V m tt = mS V m (uL L) := mS_ext fun v hv => by
          by_cases z : 0 < m v
          · rw [uL_mem (hc v hv z)]; rfl
          · have : m v = 0 := by have := f.nn v hv; omega
            rw [this]; simp
        have e2 : mS V n (uL L) ≤ mS V n tt := mS_mono g.nn fun _ _ _ => rfl
        have e3 : (L.map (mS V m)).sum ≤ (L.map (mS V n)).sum := by
          clear a b e1 e2 pw hc ih hl
          induction L with
          | nil => exact Int.le_refl _
          | cons X r ihr =>
            rw [List.map_cons, List.map_cons, List.sum_cons, List.sum_cons]
            have t := ht X List.mem_cons_self
            have q := g.ge X t.1
            have := t.2
            have := ihr fun Y hY => ht Y (List.mem_cons_of_mem _ hY)
            omega
        omega
      · obtain ⟨X, Y, R, pm, v, hv, Xv, Yv⟩ : ∃ X Y R, L.Perm (X :: Y :: R) ∧ ∃ v ∈ V, X v = true ∧ Y v = true := by
          rw [List.pairwise_iff_forall_sublist] at pw
          apply Classical.byContradiction
          intro no
          apply pw
          intro X Y sub v hv both
          obtain ⟨R, pR⟩ := sub.exists_perm_append
          exact no ⟨X, Y, R, pR, v, hv, both.1, both.2⟩
        have mem : ∀ Z, Z ∈ L ↔ Z = X ∨ Z = Y ∨ Z ∈ R := fun Z => by
          rw [pm.mem_iff, List.mem_cons, List.mem_cons]
        have tX := ht X ((mem X).mpr (.inl rfl))
        have tY := ht Y ((mem Y).mpr (.inr (.inl rfl)))
        by_cases all : ∀ y ∈ V, X y = true ∨ Y y = true
        · exact tgt_diff pos f g tX tY all
        · obtain ⟨y, hy, no⟩ : ∃ y ∈ V, ¬ (X y = true ∨ Y y = true) := by
            apply Classical.byContradiction
            intro z
            exact all fun y hy => Classical.byContradiction fun w => z ⟨y, hy, w⟩
          have Xy : X y = false := Bool.eq_false_iff.mpr fun z => no (.inl z)
          have Yy : Y y = false := Bool.eq_false_iff.mpr fun z => no (.inr z)
          have tu := tgt_union pos f tX tY hv Xv Yv hy Xy Yy
          have len := pm.length_eq
          rw [List.length_cons, List.length_cons] at len
          refine ih (R.length + 1) (by omega) (uS X Y :: R) rfl (fun Z hZ => ?_) (fun w hw h0 => ?_)
          · rcases List.mem_cons.mp hZ with rfl | hZ
            · exact tu
            · exact ht Z ((mem Z).mpr (.inr (.inr hZ)))
          · obtain ⟨Z, hZ, Zw⟩ := hc w hw h0
            rcases (mem Z).mp hZ with rfl | rfl | hZ
            · exact ⟨_, List.mem_cons_self, by unfold uS; rw [Zw]; rfl⟩
            · exact ⟨_, List.mem_cons_self, by unfold uS; rw [Zw, Bool.or_true]⟩
            · exact ⟨Z, List.mem_cons_of_mem _ hZ, Zw⟩
  -- one tight set for each place
  obtain ⟨L, hL, hc⟩ : ∃ L : List (St α), (∀ X ∈ L, tgt V E k m X) ∧ ∀ v ∈ V, 0 < m v → ∃ X ∈ L, X v = true := by
    have : ∀ U : List α, (∀ v ∈ U, v ∈ V) → ∃ L : List (St α), (∀ X ∈ L, tgt V E k m X) ∧ ∀ v ∈ U, 0 < m v → ∃ X ∈ L, X v = true := by
      intro U
      induction U with
      | nil => exact fun _ => ⟨[], fun _ h => (nomatch h), fun _ h => (nomatch h)⟩
      | cons u U ih =>
        intro h
        obtain ⟨L, h1, h2⟩ := ih fun v hv => h v (List.mem_cons_of_mem _ hv)
        by_cases z : 0 < m u
        · obtain ⟨X, Xu, t⟩ := l u (h u List.mem_cons_self) z
          refine ⟨X :: L, fun Y hY => ?_, fun v hv h0 => ?_⟩
          · rcases List.mem_cons.mp hY with rfl | hY
            · exact t
            · exact h1 Y hY
          · rcases List.mem_cons.mp hv with rfl | hv
            · exact ⟨X, List.mem_cons_self, Xu⟩
            · obtain ⟨Y, hY, e⟩ := h2 v hv h0
              exact ⟨Y, List.mem_cons_of_mem _ hY, e⟩
        · refine ⟨L, h1, fun v hv h0 => ?_⟩
          rcases List.mem_cons.mp hv with rfl | hv
          · exact absurd h0 z
          · exact h2 v hv h0
    exact this V fun _ h => h
  exact main _ L rfl hL hc
/-! #### a tie more -/
def fold (V : List α) (E : Es α) (k : Int) : Prop := ∀ X : St α, prp V X → k ≤ d E X
/-- the ties E' are E with one tie more, between a and b -/
def plus (E E' : Es α) (a b : α) : Prop := ∀ X : St α, d E' X = d E X + i1 (X a != X b)
def ch (a : α) : α → Int := fun v => if v = a then 1 else 0
theorem mS_plus {m n : α → Int} {X : St α} : ∀ {V : List α}, mS V (fun v => m v + n v) X = mS V m X + mS V n X
  | [] => rfl
  | v :: V => by
    rw [mS_cons, mS_cons, mS_cons, mS_plus (m := m) (n := n)]
    unfold i1
    cases X v <;> simp <;> omega
theorem mS_ch {a : α} {X : St α} {V : List α} (nd : V.Nodup) (ha : a ∈ V) : mS V (ch a) X = i1 (X a) := by
  have e : mS V (ch a) X = mS V (fun _ => i1 (X a)) (pt a) := mS_ext fun v _ => by
    unfold ch pt
    by_cases c : v = a
    · rw [c, if_pos rfl, decide_eq_true rfl]
      unfold i1
      cases X a <;> rfl
    · rw [if_neg c, decide_eq_false c]
      unfold i1
      simp
  rw [e, mS_pt nd ha]
theorem fold_zero {V : List α} {E : Es α} {k : Int} {m : α → Int} (f : feas V E k m) (h : mS V m tt ≤ 0) : fold V E k := fun X hX => by
  have a := f.ge X hX
  have b := mS_mono (m := m) (X := X) (Y := tt) f.nn fun _ _ _ => rfl
  omega
theorem feas_zero {V : List α} {E : Es α} {k : Int} (h : fold V E k) : feas V E k (fun _ => 0) := ⟨fun _ _ => Int.le_refl _, fun X hX => by
  have := h X hX
  have := mS_nn (m := fun _ => 0) (X := X) (V := V) fun _ _ => Int.le_refl _
  omega⟩
theorem mS_zero {X : St α} : ∀ {V : List α}, mS V (fun _ => 0) X = 0
  | [] => rfl
  | v :: V => by rw [mS_cons, mS_zero, Int.mul_zero]; rfl
theorem feas_more {V : List α} {E E' : Es α} {k : Int} {m : α → Int} {a b : α} (p : plus E E' a b) (f : feas V E k m) : feas V E' k m := ⟨f.nn, fun X hX => by
  have := f.ge X hX
  have := i1_nn (X a != X b)
  rw [p X]
  omega⟩
theorem feas_less {V : List α} {E E' : Es α} {k : Int} {m : α → Int} {a b : α} (nd : V.Nodup) (ha : a ∈ V) (hb : b ∈ V) (p : plus E E' a b) (f : feas V E' k m) : feas V E k (fun v => m v + (ch a v + ch b v)) := by
  refine ⟨fun v hv => ?_, fun X hX => ?_⟩
  · have := f.nn v hv
    unfold ch
    split <;> split <;> omega
  · have g := f.ge X hX
    rw [p X] at g
    rw [mS_plus, mS_plus, mS_ch nd ha, mS_ch nd hb]
    have : i1 (X a != X b) ≤ i1 (X a) + i1 (X b) := by cases X a <;> cases X b <;> decide
    omega
theorem sum_less {V : List α} {m : α → Int} {a b : α} (nd : V.Nodup) (ha : a ∈ V) (hb : b ∈ V) : mS V (fun v => m v + (ch a v + ch b v)) tt = mS V m tt + 2 := by
  rw [mS_plus, mS_plus, mS_ch nd ha, mS_ch nd hb]
  rfl
theorem mS_some {m : α → Int} {X : St α} : ∀ {V : List α}, 0 < mS V m X → ∃ v ∈ V, X v = true ∧ 0 < m v
  | [], h => absurd h (Int.lt_irrefl _)
  | v :: V, h => by
    rw [mS_cons] at h
    by_cases c : X v = true ∧ 0 < m v
    · exact ⟨v, List.mem_cons_self, c⟩
    · have : 0 < mS V m X := by
        have : i1 (X v) * m v ≤ 0 := by
          unfold i1
          cases hx : X v with
          | false => simp
          | true =>
            have : ¬ 0 < m v := fun z => c ⟨hx, z⟩
            simp
            omega
        omega
      obtain ⟨w, hw, q⟩ := mS_some this
      exact ⟨w, List.mem_cons_of_mem _ hw, q⟩
/-- with ends at one place alone nothing lacks -/
theorem one_fold {V : List α} {E : Es α} {k : Int} {m : α → Int} (f : feas V E k m) {a : α} (h : ∀ v ∈ V, 0 < m v → v = a) : fold V E k := fun X hX => by
  have zero : ∀ Y : St α, Y a = false → mS V m Y ≤ 0 := fun Y hY => by
    refine Int.not_lt.mp fun z => ?_
    obtain ⟨v, hv, Yv, mv⟩ := mS_some z
    rw [h v hv mv, hY] at Yv
    cases Yv
  cases hXa : X a with
  | false =>
    have := f.ge X hX
    have := zero X hXa
    omega
  | true =>
    have := f.ge _ (prp_co hX)
    have := zero (co X) (by unfold co; rw [hXa]; rfl)
    rw [d_comp] at *
    omega
theorem two_ties {V : List α} {E : Es α} {k : Int} {m : α → Int} (nd : V.Nodup) (f : feas V E k m) (h : mS V m tt ≤ 2) : fold V E k ∨ ∃ a ∈ V, ∃ b ∈ V, a ≠ b ∧ ∀ E', plus E E' a b → fold V E' k := by
  by_cases z : mS V m tt ≤ 0
  · exact .inl (fold_zero f z)
  obtain ⟨a, ha, _, ma⟩ := mS_some (show 0 < mS V m tt by omega)
  by_cases o : ∀ v ∈ V, 0 < m v → v = a
  · exact .inl (one_fold f o)
  obtain ⟨b, hb, mb, ne⟩ : ∃ b ∈ V, 0 < m b ∧ b ≠ a := Classical.byContradiction fun w => o fun v hv hm => Classical.byContradiction fun n => w ⟨v, hv, hm, n⟩
  refine .inr ⟨a, ha, b, hb, ne.symm, fun E' p X hX => ?_⟩
  rw [p X]
  have both : ∀ Y : St α, Y a = true → Y b = true → mS V m (co Y) ≤ 0 := fun Y Ya Yb => by
    have := mS_has2 (m := m) (X := Y) nd f.nn ha hb ne Ya Yb
    have := mS_co (m := m) (X := Y) (V := V)
    omega
  cases hXa : X a <;> cases hXb : X b
  · have := f.ge X hX
    have q := both (co X) (by unfold co; rw [hXa]; rfl) (by unfold co; rw [hXb]; rfl)
    have : mS V m (co (co X)) = mS V m X := mS_ext fun v _ => by unfold co; rw [Bool.not_not]
    have : i1 (false != false) = 0 := rfl
    omega
  · have := f.ge X hX
    have := mS_co (m := m) (X := X) (V := V)
    have := mS_has (m := m) (X := co X) nd f.nn ha (by unfold co; rw [hXa]; rfl)
    have : i1 (false != true) = 1 := rfl
    omega
  · have := f.ge X hX
    have := mS_co (m := m) (X := X) (V := V)
    have := mS_has (m := m) (X := co X) nd f.nn hb (by unfold co; rw [hXb]; rfl)
    have : i1 (true != false) = 1 := rfl
    omega
  · have := f.ge _ (prp_co hX)
    have := both X hXa hXb
    have : i1 (true != true) = 0 := rfl
    rw [d_comp] at *
    omega
theorem star3 {E : Es α} (pos : ∀ e ∈ E, 1 ≤ e.2) (X Y Z : St α) : d E (iS X (iS Y Z)) + d E (dS X (uS Y Z)) + d E (dS Y (uS X Z)) + d E (dS Z (uS X Y)) ≤ d E X + d E Y + d E Z := by
  unfold d
  rw [← W_add, ← W_add, ← W_add, ← W_add, ← W_add]
  refine W_mono pos fun e _ => ?_
  dsimp only [uS, iS, dS, i1]
  generalize X e.1.1 = a; generalize X e.1.2 = b; generalize Y e.1.1 = c; generalize Y e.1.2 = g; generalize Z e.1.1 = p; generalize Z e.1.2 = q
  revert a b c g p q
  decide
theorem bump {V : List α} {E : Es α} {k : Int} {m : α → Int} (nd : V.Nodup) {a : α} (ha : a ∈ V) (f : feas V E k m) : feas V E k (fun v => m v + ch a v) ∧ mS V (fun v => m v + ch a v) tt = mS V m tt + 1 := by
  refine ⟨⟨fun v hv => ?_, fun X hX => ?_⟩, ?_⟩
  · have := f.nn v hv
    unfold ch
    split <;> omega
  · have := f.ge X hX
    rw [mS_plus, mS_ch nd ha]
    have := i1_nn (X a)
    omega
  · rw [mS_plus, mS_ch nd ha]
    rfl
theorem four_ties {V : List α} {E : Es α} {k : Int} {m : α → Int} (pos : ∀ e ∈ E, 1 ≤ e.2) (k2 : 2 ≤ k) (nd : V.Nodup) (f : feas V E k m) (h4 : mS V m tt = 4) : fold V E k ∨ ∃ a ∈ V, ∃ b ∈ V, a ≠ b ∧ ∀ E', plus E E' a b → ∃ n, feas V E' k n ∧ mS V n tt ≤ 2 := by
  by_cases good : ∃ a ∈ V, ∃ b ∈ V, a ≠ b ∧ 0 < m a ∧ 0 < m b ∧ ∀ X, prp V X → X a = true → X b = true → k + 2 ≤ d E X + mS V m X
  · obtain ⟨a, ha, b, hb, ne, ma, mb, g⟩ := good
    refine .inr ⟨a, ha, b, hb, ne, fun E' p => ⟨fun v => m v + -(ch a v + ch b v), ⟨fun v hv => ?_, fun X hX => ?_⟩, ?_⟩⟩
    · have := f.nn v hv
      unfold ch
      by_cases c1 : v = a
      · have : ¬ v = b := fun z => ne (c1.symm.trans z)
        rw [if_pos c1, if_neg this, c1]
        omega
      · rw [if_neg c1]
        by_cases c2 : v = b
        · rw [if_pos c2, c2]; omega
        · rw [if_neg c2]; omega
    · have q := f.ge X hX
      have neg : mS V (fun v => -(ch a v + ch b v)) X = -(i1 (X a) + i1 (X b)) := by
        rw [← mS_ch (X := X) nd ha, ← mS_ch (X := X) nd hb, ← mS_plus]
        have : ∀ {U : List α} {n : α → Int}, mS U (fun v => -(n v)) X = -(mS U n X) := fun {U n} => by
          induction U with
          | nil => rfl
          | cons u U ih => rw [mS_cons, mS_cons, ih, Int.mul_neg]; omega
        exact this
      rw [p X, mS_plus, neg]
      cases hXa : X a <;> cases hXb : X b
      · have : i1 (false != false) = 0 := rfl
        have : i1 false = 0 := rfl
        omega
      · have : i1 (false != true) = 1 := rfl
        have : i1 false = 0 := rfl
        have : i1 true = 1 := rfl
        omega
      · have : i1 (true != false) = 1 := rfl
        have : i1 false = 0 := rfl
        have : i1 true = 1 := rfl
        omega
      · have := g X hX hXa hXb
        have : i1 (true != true) = 0 := rfl
        have : i1 true = 1 := rfl
        omega
    · have neg : mS V (fun v => -(ch a v + ch b v)) tt = -(i1 (tt a) + i1 (tt b)) := by
        rw [← mS_ch (X := tt) nd ha, ← mS_ch (X := tt) nd hb, ← mS_plus]
        have : ∀ {U : List α} {n : α → Int}, mS U (fun v => -(n v)) tt = -(mS U n tt) := fun {U n} => by
          induction U with
          | nil => rfl
          | cons u U ih => rw [mS_cons, mS_cons, ih, Int.mul_neg]; omega
        exact this
      rw [mS_plus, neg]
      have : i1 (tt a) = 1 := rfl
      have : i1 (tt b) = 1 := rfl
      omega
  -- every two ends stand in a set that nearly lacks
  have bad : ∀ a ∈ V, ∀ b ∈ V, a ≠ b → 0 < m a → 0 < m b → m a = 1 ∧ m b = 1 ∧ ∃ X, prp V X ∧ X a = true ∧ X b = true ∧ mS V m X = 2 ∧ d E X ≤ k - 1 := fun a ha b hb ne ma mb => by
    obtain ⟨X, hX, Xa, Xb, hd⟩ : ∃ X, prp V X ∧ X a = true ∧ X b = true ∧ d E X + mS V m X ≤ k + 1 := Classical.byContradiction fun w => good ⟨a, ha, b, hb, ne, ma, mb, fun X hX Xa Xb => Classical.byContradiction fun z => w ⟨X, hX, Xa, Xb, by omega⟩⟩
    have q := f.ge _ (prp_co hX)
    rw [d_comp] at q
    have c := mS_co (m := m) (X := X) (V := V)
    have e := mS_has2 (m := m) (X := X) nd f.nn ha hb (Ne.symm ne) Xa Xb
    exact ⟨by omega, by omega, X, hX, Xa, Xb, by omega, by omega⟩
  obtain ⟨a, ha, _, ma⟩ := mS_some (show 0 < mS V m tt by omega)
  by_cases o : ∀ v ∈ V, 0 < m v → v = a
  · exact .inl (one_fold f o)
  obtain ⟨b, hb, mb, ne⟩ : ∃ b ∈ V, 0 < m b ∧ b ≠ a := Classical.byContradiction fun w => o fun v hv hm => Classical.byContradiction fun n => w ⟨v, hv, hm, n⟩
  exfalso
  obtain ⟨a1, b1, X, pX, Xa, Xb, X2, Xd⟩ := bad a ha b hb ne.symm ma mb
  have t1 := mS_two (m := m) (X := tt) nd f.nn ha rfl
  have t2 := mS_two (m := m) (X := dS tt (pt a)) nd f.nn hb (by unfold dS tt pt; rw [decide_eq_false ne]; rfl)
  obtain ⟨c, hc, Yc, mc⟩ := mS_some (show 0 < mS V m (dS (dS tt (pt a)) (pt b)) by omega)
  have cb : c ≠ b := fun z => by unfold dS pt at Yc; rw [decide_eq_true z] at Yc; simp at Yc
  have ca : c ≠ a := fun z => by unfold dS pt at Yc; rw [decide_eq_true z] at Yc; simp at Yc
  obtain ⟨_, c1, Y, pY, Ya, Yc', Y2, Yd⟩ := bad a ha c hc ca.symm ma mc
  have t3 := mS_two (m := m) (X := dS (dS tt (pt a)) (pt b)) nd f.nn hc Yc
  obtain ⟨e, he, Ze, me⟩ := mS_some (show 0 < mS V m (dS (dS (dS tt (pt a)) (pt b)) (pt c)) by omega)
  have ec : e ≠ c := fun z => by unfold dS pt at Ze; rw [decide_eq_true z] at Ze; simp at Ze
  have eb : e ≠ b := fun z => by unfold dS pt at Ze; rw [decide_eq_true z] at Ze; simp at Ze
  have ea : e ≠ a := fun z => by unfold dS pt at Ze; rw [decide_eq_true z] at Ze; simp at Ze
  obtain ⟨_, e1, Z, pZ, Za, Ze', Z2, Zd⟩ := bad a ha e he ea.symm ma me
  have off : ∀ {U : St α} {u v : α}, u ∈ V → v ∈ V → u ≠ a → v ≠ a → v ≠ u → U a = true → U u = true → 0 < m u → 0 < m v → mS V m U = 2 → U v = false := fun {U u v} hu hv ua va vu Ua Uu mu mv hU => by
    refine Bool.eq_false_iff.mpr fun Uv => ?_
    have w := mS_two (m := m) (X := U) nd f.nn ha Ua
    have w2 := mS_has2 (m := m) (X := dS U (pt a)) nd f.nn hu hv vu (by unfold dS pt; rw [Uu, decide_eq_false ua]; rfl) (by unfold dS pt; rw [Uv, decide_eq_false va]; rfl)
    omega
  have Xc := off hb hc ne ca cb Xa Xb mb mc X2
  have Xe := off hb he ne ea eb Xa Xb mb me X2
  have Yb := off hc hb ca ne (Ne.symm cb) Ya Yc' mc mb Y2
  have Ye := off hc he ca ea ec Ya Yc' mc me Y2
  have Zb := off he hb ea ne (Ne.symm eb) Za Ze' me mb Z2
  have Zc := off he hc ea ca (Ne.symm ec) Za Ze' me mc Z2
  have less : ∀ {U T : St α} {u : α}, u ∈ V → U u = true → m u = 1 → mS V m U = 2 → (∀ v, T v = true → U v = true) → T u = false → mS V m T ≤ 1 := fun {U T u} hu Uu mu hU sub Tu => by
    have w := mS_two (m := m) (X := U) nd f.nn hu Uu
    have := mS_mono (m := m) (X := T) (Y := dS U (pt u)) f.nn fun v _ Tv => by
      unfold dS pt
      rw [sub v Tv, decide_eq_false (fun z => by rw [z, Tu] at Tv; cases Tv)]
      rfl
    omega
  have star := star3 pos X Y Z
  have A1 : mS V m (iS X (iS Y Z)) ≤ 1 := less hb Xb b1 X2 (fun v h => by unfold iS at h; cases hx : X v with | true => rfl | false => rw [hx] at h; cases h) (by unfold iS; rw [Yb, Bool.false_and, Bool.and_false])
  have B1 : mS V m (dS X (uS Y Z)) ≤ 1 := less ha Xa a1 X2 (fun v h => by unfold dS at h; cases hx : X v with | true => rfl | false => rw [hx] at h; cases h) (by unfold dS uS; rw [Ya, Bool.true_or]; simp)
  have C1 : mS V m (dS Y (uS X Z)) ≤ 1 := less ha Ya a1 Y2 (fun v h => by unfold dS at h; cases hx : Y v with | true => rfl | false => rw [hx] at h; cases h) (by unfold dS uS; rw [Xa, Bool.true_or]; simp)
  have D1 : mS V m (dS Z (uS X Y)) ≤ 1 := less ha Za a1 Z2 (fun v h => by unfold dS at h; cases hx : Z v with | true => rfl | false => rw [hx] at h; cases h) (by unfold dS uS; rw [Xa, Bool.true_or]; simp)
  have A := f.ge (iS X (iS Y Z)) ⟨⟨a, ha, by unfold iS; rw [Xa, Ya, Za]; rfl⟩, b, hb, by unfold iS; rw [Yb, Bool.false_and, Bool.and_false]⟩
  have B := f.ge (dS X (uS Y Z)) ⟨⟨b, hb, by unfold dS uS; rw [Xb, Yb, Zb]; rfl⟩, a, ha, by unfold dS uS; rw [Ya, Bool.true_or]; simp⟩
  have C := f.ge (dS Y (uS X Z)) ⟨⟨c, hc, by unfold dS uS; rw [Yc', Xc, Zc]; rfl⟩, a, ha, by unfold dS uS; rw [Xa, Bool.true_or]; simp⟩
  have D := f.ge (dS Z (uS X Y)) ⟨⟨e, he, by unfold dS uS; rw [Ze', Xe, Ye]; rfl⟩, a, ha, by unfold dS uS; rw [Xa, Bool.true_or]; simp⟩
  omega
/-- two ties are enough for four ends -/
theorem four_ends {V : List α} {E : Es α} {k : Int} {m : α → Int} (pos : ∀ e ∈ E, 1 ≤ e.2) (k2 : 2 ≤ k) (nd : V.Nodup) (f : feas V E k m) (h4 : mS V m tt ≤ 4) : fold V E k ∨ ∃ a ∈ V, ∃ b ∈ V, a ≠ b ∧ ∀ E', plus E E' a b → ∃ n, feas V E' k n ∧ mS V n tt ≤ 2 := by
  by_cases h2 : mS V m tt ≤ 2
  · rcases two_ties nd f h2 with h | ⟨a, ha, b, hb, ne, h⟩
    · exact .inl h
    · exact .inr ⟨a, ha, b, hb, ne, fun E' p => ⟨_, feas_zero (h E' p), by rw [mS_zero]; decide⟩⟩
  · by_cases h3 : mS V m tt = 4
    · exact four_ties pos k2 nd f h3
    · obtain ⟨a, ha, _, _⟩ := mS_some (show 0 < mS V m tt by omega)
      obtain ⟨g, e⟩ := bump nd ha f
      exact four_ties pos k2 nd g (by omega)
end
end Few
/-! ### own lists: made by a comprehension, an item set, looked at -/
mutual
def noLn (n : Nat) : D → Bool
  | .lst xs => !decide (xs.length = n) && noLns n xs
  | .tup xs => noLns n xs
  | .dK _ xs => noLns n xs
  | .dT _ xs => noLns n xs
  | .ins _ _ xs => noLns n xs
  | _ => true
def noLns (n : Nat) : List D → Bool
  | [] => true
  | x :: xs => noLn n x && noLns n xs
end
section
variable {dc : Option Addr} {F : Hp} {a : Addr} {ws : List V} {n : Nat}
mutual
theorem Rep.lessL (h : F a = some (.lst ws)) (hn : ws.length = n) : ∀ {x : D} {v : V}, Rep dc F x v → noLn n x = true → Rep dc (KP.less F a) x v
  | _, _, .non, _ => .non
  | _, _, .bl b, _ => .bl b
  | _, _, .int i, _ => .int i
  | _, _, .str x, _ => .str x
  | _, _, .ty x, _ => .ty x
  | _, _, .raw x, _ => .raw x
  | _, _, .rng e, _ => .rng (by rw [less_ne (fun z => by rw [z, h] at e; cases e)]; exact e)
  | _, _, .cell e, _ => .cell e
  | _, _, .lst e r, m => by
    rw [noLn, Bool.and_eq_true, Bool.not_eq_true', decide_eq_false_iff_not] at m
    refine .lst ?_ (Reps.lessL h hn r m.2)
    rw [less_ne (fun z => ?_)]
    · exact e
    · rw [z, h] at e
      cases e
      exact m.1 (by rw [r.length]; exact hn)
  | _, _, .tup e r, m => .tup (by rw [less_ne (fun z => by rw [z, h] at e; cases e)]; exact e) (Reps.lessL h hn r (by rw [noLn] at m; exact m))
  | _, _, .dK e l r, m => .dK (by rw [less_ne (fun z => by rw [z, h] at e; cases e)]; exact e) l (Reps.lessL h hn r (by rw [noLn] at m; exact m))
  | _, _, .dT e l r, m => .dT (by rw [less_ne (fun z => by rw [z, h] at e; cases e)]; exact e) l (Reps.lessL h hn r (by rw [noLn] at m; exact m))
  | _, _, .ins e l r, m => .ins (by rw [less_ne (fun z => by rw [z, h] at e; cases e)]; exact e) l (Reps.lessL h hn r (by rw [noLn] at m; exact m))
theorem Reps.lessL (h : F a = some (.lst ws)) (hn : ws.length = n) : ∀ {xs : List D} {vs : List V}, Reps dc F xs vs → noLns n xs = true → Reps dc (KP.less F a) xs vs
  | _, _, .nil, _ => .nil
  | _, _, .cons r t, m => by
    rw [noLns, Bool.and_eq_true] at m
    exact .cons (Rep.lessL h hn r m.1) (Reps.lessL h hn t m.2)
end
end
def sPeekL (i j : Nat) (d : DT) : DTS := fun E ρ => ∃ xs, ρ[i]? = some (.own (.lst xs)) ∧ d (visD (ρ.set i (.val (.lst xs)))) fun x => noLn xs.length x = true ∧ E.nx (ρ.set j (.val x))
section
variable {X : Cx} {dc : Option Addr} {e : Expr} {d : DT} {pos : Pos}
theorem own_peekL {F0 H0 F H : Hp} {ρ : SEnv} {σ : L2.St} {i : Nat} {n : Nat} {xs : List D} (hn : xs.length = n) (I : SInv dc F0 H0 ρ σ F H) (hi : ρ[i]? = some (.own (.lst xs))) :
    ∃ F', SInv dc F0 H0 (ρ.set i (.val (.lst xs))) σ F' H ∧ ∀ {F1 H1 : Hp} {x : D} {v : V}, Ext dc F' H F1 H1 → Rep dc F1 x v → noLn n x = true → ∃ F2, SInv dc F0 H0 ρ σ F2 H1 ∧ Rep dc F2 x v := by
  obtain ⟨a, o, h1, h2, h3, h4, h5, h6⟩ := I.owns i _ hi
  have fs : ∀ b u, F b = some u → (upd F a o) b = some u := fun b u h => by
    rw [upd_ne (fun z => by rw [z, h4] at h; cases h)]
    exact h
  have J : SInv dc F0 H0 (ρ.set i (.val (.lst xs))) σ (upd F a o) H := by
    refine ⟨I.pre0, I.ext.close h5 h2 (h3.sub h2) h6 h4, by rw [List.length_set]; exact I.len, fun j y h => ?_, fun j y h => ?_, fun j k y z b g1 g2 g3 g4 => ?_⟩
    · rcases set_own h with ⟨hj, z, hl⟩ | ⟨hj, h⟩
      · subst hj
        cases z
        exact ⟨_, h1, (h3.mono fs).rep upd_same⟩
      · obtain ⟨v, q1, q2⟩ := I.vals j y h
        exact ⟨v, q1, q2.mono fs⟩
    · rcases set_own h with ⟨_, z, _⟩ | ⟨hj, h⟩
      · cases z
      · obtain ⟨b, u, q1, q2, q3, q4, q5, q6⟩ := I.owns j y h
        have hb : b ≠ a := fun z => hj (I.apart i j _ y a hi h h1 (by rw [← z]; exact q1))
        exact ⟨b, u, q1, q2, q3.mono fs, by rw [upd_ne hb]; exact q4, q5, q6⟩
    · rcases set_own g1 with ⟨_, z, _⟩ | ⟨_, g1⟩
      · cases z
      · rcases set_own g2 with ⟨_, z, _⟩ | ⟨_, g2⟩
        · cases z
        · exact I.apart j k y z b g1 g2 g3 g4
  refine ⟨_, J, fun {F1 H1 x v} e r nl => ?_⟩
  have ho : ∃ ws, o = .lst ws ∧ ws.length = n := by
    generalize hx : D.lst xs = xx at h3
    cases h3 with
    | lst r => cases hx; exact ⟨_, rfl, by rw [← r.length]; exact hn⟩
    | dK _ _ => cases hx
    | dT _ _ => cases hx
  obtain ⟨ws, rfl, hw⟩ := ho
  have ha : F1 a = some (.lst ws) := e.fsub _ _ upd_same
  exact ⟨_, I.step (e.less h4 fs), Rep.lessL ha hw r nl⟩
/-- x = e, where e looks at the def's own list i -/
theorem ds_peekL {i j : Nat} {x : Str} {pos' : Pos} (hN : X.N.Nodup) (hj : X.N[j]? = some x) (hx : Loc X.env.scope x) (he : DE X dc e d) (hs : swapsWith e (some (.Name x pos')) pos.line X.env = pure false := by rfl)
    (hf : X.fn x = true ∨ X.env.scope.names.lookup x = some .local := by first | exact .inl rfl | exact .inr rfl | assumption) : DS X dc (.Assign [.Name x pos'] e pos) (sPeekL i j d) := by
  have m := he.mono
  obtain ⟨t, p, r⟩ := he.get
  refine ⟨fun E E' ρ l ⟨xs, a, h⟩ => ⟨xs, a, m _ _ _ (fun x h => ⟨h.1, l.nx _ h.2⟩) h⟩, _, ps_set hN hj hx p hs hf, fun F0 H0 ρ σ F H E D' I L ⟨xs, hi, h⟩ => ?_⟩
  obtain ⟨F', J, back⟩ := own_peekL rfl I hi
  exact r J.ext.pre J.slots h fun x v F1 H1 h e1 r1 => let ⟨F2, I2, r2⟩ := back e1 r1 h.1; L.nx _ _ _ _ (I2.set j r2) h.2
/-- l[k] = e, l the def's own list -/
def sPutI (i : Nat) (dk dv : DT) : DTS := fun E ρ => ∃ xs, ρ[i]? = some (.own (.lst xs)) ∧ dv (visD ρ) fun y => dk (visD ρ) fun k => asInt k fun n => ∃ j, ixN xs.length n = some j ∧ E.nx (ρ.set i (.own (.lst (xs.set j y))))
theorem Reps.set {dc : Option Addr} {F : Hp} {y : D} {u : V} (r : Rep dc F y u) : ∀ {xs : List D} {vs : List V} (j : Nat), Reps dc F xs vs → Reps dc F (xs.set j y) (vs.set j u)
  | _, _, _, .nil => .nil
  | _, _, 0, .cons _ t => .cons r t
  | _, _, j + 1, .cons a t => .cons a (Reps.set r j t)
theorem ds_putI {i : Nat} {x : Str} {ek ev : Expr} {dk dv : DT} {pn pos' : Pos} (hN : X.N[i]? = some x) (hv : Vis X.env.scope x) (hk : DE X dc ek dk) (he : DE X dc ev dv) (hdb : (x == ("__debug__" : Str)) = false := by decide) (hcd : (x == ("__classdict__" : Str)) = false := by decide)
    (hs : swapsWith ev (some (.Subscript (.Name x pn) ek pos')) pos.line X.env = pure false := by rfl)
    (ha : ∀ v, assign (.Subscript (.Name x pn) ek pos') X.env v = (do
      let ov ← holding [v] (eval (.Name x pn) X.env)
      let iv ← holding [v, ov] (eval ek X.env)
      standAt pos'
      holding [v, ov, iv] (setItem ov iv v)
      release [v, ov, iv] []) := by intro _; rfl) : DS X dc (.Assign [.Subscript (.Name x pn) ek pos'] ev pos) (sPutI i dk dv) := by
  have mk := hk.mono
  have mv := he.mono
  obtain ⟨t1, p1, r1⟩ := hk.get
  obtain ⟨t2, p2, r2⟩ := he.get
  refine ⟨fun E E' ρ l ⟨xs, a, h⟩ => ⟨xs, a, mv _ _ _ (fun y h => mk _ _ _ (fun k h => asInt.mono (fun n ⟨j, e, q⟩ => ⟨j, e, l.nx _ q⟩) h) h) h⟩, _, ps_asg p2 (pg_sub (pe_var (pos := pn) hN hv hdb hcd) p1 set_list ha) hs, fun F0 H0 ρ σ F H E D' I L ⟨xs, hi, h⟩ => ?_⟩
  refine r2 I.ext.pre I.slots h fun y v F1 H1 h e1 q1 => ?_
  have I1 := I.step e1
  obtain ⟨a, vs, hs1, ha1, rr, nF, n0, nd⟩ := own_lst I1 hi
  refine ⟨.ref a, hs1, r1 I1.ext.pre I1.slots h fun k u F3 H3 h e2 q3 => ?_⟩
  have I2 := I1.step e2
  obtain ⟨a2, vs2, hs2, ha2, rr2, nF2, n02, nd2⟩ := own_lst I2 hi
  rw [hs1] at hs2
  cases hs2
  obtain ⟨n, rfl, j, hj, h⟩ := h.inv
  cases q3
  refine ⟨a, vs2, n, j, rfl, rfl, ha2, by rw [← rr2.length]; exact hj, L.nx _ _ _ _ (I2.put hi hs1 nF2 n02 nd2 (OwnO.lst (Reps.set (e2.rep q1) j rr2))) h⟩
theorem lc_readO {J : It} {xs : List D} {ρ : DEnv} {σ : L2.St} {F1 H1 : Hp} {Q : VK} {is vs : List Nat} {g : DTG} {dt : DTB} {de : DT} (mg : ∀ x P P', (∀ xs, P xs → P' xs) → g x P → g x P') (mt : ∀ ρ P P', (∀ x, P x → P' x) → dt ρ P → dt ρ P')
    (me : ∀ ρ P P', (∀ x, P x → P' x) → de ρ P → de ρ P') (his : ∀ i ∈ is, i ∈ vs) (p1 : Pre dc F1 H1) (s : Slots dc F1 ρ σ) (it : IterOf dc F1 H1 J xs) (hz : xs.length ≤ sizeLine) {KK : List D → Prop} (hl : lcL (lcF is g dt de vs ρ) xs KK) (fin : ∀ L F' H' acc accD, H1 L = none → Ext dc F1 H1 F' H' → F' L = none → H' L = some (.lst acc) → Reps dc F' accD acc → KK accD → Q (.ref L) H') :
    ∀ L, H1 L = none → ∃ W : Nat → Nat → Hp → Prop, (∃ m, W 0 m (upd H1 L (.lst []))) ∧ ∀ i m H, W i m H →
      (J.stop i H ∧ Q (.ref L) H) ∨ (J.go i H ∧ ∃ Nx : Hp → Prop, (∀ H', Nx H' → ∃ m', m' < m ∧ W (i + 1) m' H') ∧ ∀ x H', J.yld i H x H' → gD dc is g x (L2.wipe σ vs) H' fun σ2 H2 => L2.wipe σ2 vs = L2.wipe σ vs ∧ tDB dc dt σ2 H2 fun b H3 =>
        if b = true then tD dc de σ2 H3 fun y H4 => ∃ acc, H4 L = some (.lst acc) ∧ acc.length < sizeLine ∧ Nx (upd H4 L (.lst (acc ++ [y]))) else Nx H3) := by
  intro L nD
  have fD1 : F1 L = none := p1.nf nD
  have dD : dc ≠ some L := p1.nd nD
  refine lc_it (n := xs.length) (G := fun H' => ∀ a o, F1 a ≠ none → H1 a = some o → Kp o (H' a)) (Y := fun i H' v H'' => ∀ F', Pre dc F' H' → (∀ a o, F1 a = some o → F' a = some o) → ∃ x F'', xs[i]? = some x ∧ Ext dc F' H' F'' H'' ∧ Rep dc F'' x v)
    ⟨fun i H' hi k => it.goes i H' hi k, fun H' k => it.stops H' k, fun i H' v H'' hi k y F' pr fs => it.yields i F' H' v H'' hi pr fs k y⟩
    (fun i H' => ∃ F' acc accD, Ext dc F1 H1 F' H' ∧ F' L = none ∧ H' L = some (.lst acc) ∧ Reps dc F' accD acc ∧ accD.length ≤ i ∧ lcL (lcF is g dt de vs ρ) (xs.drop i) (fun r => KK (accD ++ r)))
    ⟨F1, [], [], (Ext.refl p1).put nD fD1 dD, fD1, upd_same, .nil, Nat.le_refl _, by rw [List.drop_zero]; exact hl⟩
    (fun i H' _ hP => let ⟨F', _, _, e, _⟩ := hP; e.of p1) (fun i v H' H'' hi hP y => ?_) (fun H' hP => ?_)
  · obtain ⟨F', acc, accD, e, fD, hD, ra, la, hl⟩ := hP
    obtain ⟨x, F2, hx, e2, rx⟩ := y F' e.pre e.fsub
    have hxe : x = xs[i] := by rw [List.getElem?_eq_getElem hi] at hx; exact (Option.some.inj hx).symm
    rw [List.drop_eq_getElem_cons hi, ← hxe] at hl
    have nt : ∀ us, HO.lst acc ≠ .tup us := fun us z => nomatch z
    have hD2 : H'' L = some (.lst acc) := e2.keep _ _ dD hD
    have fD2 : F2 L = none := e2.out fD hD nt
    refine ⟨F2, x, e2.pre, rx, mg _ _ _ (fun ys hy ws rw' => ⟨wipe_setAll his, ?_⟩) hl⟩
    have sl : Slots dc F2 (setAllD (wipeD ρ vs) is ys) (setAll (L2.wipe σ vs) is ws) := ((s.mono fun a o q => e2.fsub _ _ (e.fsub _ _ q)).wipe _).setAll is rw'
    refine ⟨_, F2, e2.pre, sl, mt _ _ _ (fun b hb F3 H3 e3 => ?_) hy⟩
    have hD3 : H3 L = some (.lst acc) := e3.keep _ _ dD hD2
    have fD3 : F3 L = none := e3.out fD2 hD2 nt
    cases b with
    | true =>
      refine iteT ⟨_, F3, e3.pre, sl.mono e3.fsub, me _ _ _ (fun yv hyv v F4 H4 e4 r4 => ?_) (by simpa using hb)⟩
      have hD4 : H4 L = some (.lst acc) := e4.keep _ _ dD hD3
      have fD4 : F4 L = none := e4.out fD3 hD3 nt
      refine ⟨acc, hD4, by rw [← ra.length]; omega, F4, acc ++ [v], accD ++ [yv], (((e.trans p1 e2).trans p1 e3).trans p1 e4).put nD fD4 dD, fD4, upd_same, (e4.reps (e3.reps (e2.reps ra))).app (.cons r4 .nil), by rw [List.length_append]; simp; omega, ?_⟩
      have : (fun r => KK (accD ++ [yv] ++ r)) = fun r => KK (accD ++ ([yv] ++ r)) := by
        funext r
        rw [List.append_assoc]
      rw [this]
      exact hyv
    | false =>
      refine iteF ⟨F3, acc, accD, (e.trans p1 e2).trans p1 e3, fD3, hD3, e3.reps (e2.reps ra), by omega, ?_⟩
      simpa using hb
  · obtain ⟨F', acc, accD, e, fD, hD, ra, la, hl⟩ := hP
    rw [List.drop_length] at hl
    have hl : KK (accD ++ []) := hl
    rw [List.append_nil] at hl
    exact fin L F' H' acc accD nD e fD hD ra hl
/-- x = [.. for ..], the def's own list -/
def sOwnL (i : Nat) (w : DTI) (is : List Nat) (g : DTG) (dt : DTB) (de : DT) (vs : List Nat) : DTS := fun E ρ => w (visD ρ) fun xs => xs.length ≤ sizeLine ∧ lcL (lcF is g dt de vs (visD ρ)) xs fun ys => E.nx (ρ.set i (.own (.lst ys)))
theorem ds_ownLc {pos spos py : Pos} {i : Nat} {x : Str} {elt tg iter : Expr} {ifs : List Expr} {scope : Scope} {own : List (Str × Nat)} {is : List Nat} {w : DTI} {g : DTG} {dt : DTB} {de : DT} (hc : X.calm = true) (hN : X.N.Nodup) (hx : X.N[i]? = some x) (hl : X.env.scope.names.lookup x = some .local)
    (hsw : swapsWith (.ListComp elt [⟨tg, iter, ifs, 0⟩] scope pos) (some (.Name x py)) spos.line X.env = pure true) (hi : DI X dc tg iter w) (ok : BlkOk X.N X.env.scope scope own)
    (hg : ∀ (s : Shared) (H : Hp) (C : Addr) (cl : List (Str × Addr)) (fp : List Addr), DG (X.blk s H scope (compEnvC scope cl C X.env) fp) dc tg is g) (ht : ∀ (s : Shared) (H : Hp) (C : Addr) (cl : List (Str × Addr)) (fp : List Addr), DTs (X.blk s H scope (compEnvC scope cl C X.env) fp) dc ifs dt)
    (he : ∀ (s : Shared) (H : Hp) (C : Addr) (cl : List (Str × Addr)) (fp : List Addr), DE (X.blk s H scope (compEnvC scope cl C X.env) fp) dc elt de) (his : ∀ i ∈ is, i ∈ own.map (·.2)) (hs : ∀ x, foldedSetIterable iter X.env x = pure x := by intro _; rfl) :
    DS X dc (.Assign [.Name x py] (.ListComp elt [⟨tg, iter, ifs, 0⟩] scope pos) spos) (sOwnL i w is g dt de (own.map (·.2))) := by
  have mw := hi.mono
  have mg := (hg {} (fun _ => none) 0 [] []).mono
  have mt := (ht {} (fun _ => none) 0 [] []).mono
  have me := (he {} (fun _ => none) 0 [] []).mono
  refine ⟨fun E E' ρ l h => mw _ _ _ (fun xs h => ⟨h.1, lcL_mono (lcF_mono mg mt me) _ _ _ (fun ys q => l.nx _ q) h.2⟩) h, _, ps_setLc hc hN hx hl hsw hi.run ok (fun s H C cl fp => (hg s H C cl fp).run) (fun s H C cl fp => (ht s H C cl fp).run) (fun s H C cl fp => (he s H C cl fp).pe) hs, fun F0 H0 ρ σ F H E D' I L h => ?_⟩
  have p := I.ext.pre
  have s := I.slots
  refine ⟨visD ρ, F, p, s, mw _ _ _ (fun xs hx J F1 H1 e1 it => ?_) h⟩
  have I1 := I.step e1
  exact lc_readO (Q := fun v H1 => gName i v σ H1 D'.nx) mg mt me his e1.pre (s.mono e1.fsub) it hx.1 hx.2 fun A F' H' acc accD nA e fA hA ra q => L.nx _ _ _ _ (I1.takeOwn e nA hA (OwnO.lst ra) fA) q
/-- x.bit_length() -/
theorem de_bits {o : Expr} {apos cpos : Pos} (h : DE X dc o d) (hbase : attributeBase o "bit_length" X.env (eval o X.env) = eval o X.env := by rfl) (hline : (apos.endLine == cpos.line) = true := by rfl) : DE X dc (.Call (.Attribute o "bit_length" apos) [] [] cpos) (fun ρ Q => d ρ fun x => asInt x fun i => Q (.int (Builtin.Int.intBits i : Nat))) := by
  have m := h.mono
  obtain ⟨t, p, r⟩ := h.get
  refine ⟨fun ρ P P' hP h => m _ _ _ (fun x h => asInt.mono (fun i q => hP _ q) h) h, _, pe_bits p hbase hline, fun ρ σ F H Q pr s h => r pr s h fun x v F1 H1 h e1 rx => ?_⟩
  obtain ⟨i, rfl, q⟩ := h.inv
  cases rx
  exact ⟨i, rfl, q _ _ _ e1 (.int _)⟩
end
/-! ### list(range(n)) -/
section
variable {X : Cx} {dc : Option Addr} {e : Expr} {d : DT} {pos p pos2 p2 : Pos}
theorem Reps.rg {F : Hp} : ∀ l : List Nat, Reps dc F (l.map fun (i : Nat) => D.int i) (l.map fun (i : Nat) => V.int (0 + i))
  | [] => .nil
  | i :: r => .cons (show Rep dc F (.int (i : Nat)) (.int (0 + (i : Nat))) by rw [Int.zero_add]; exact .int _) (Reps.rg r)
theorem de_listRg1 (hc : X.calm = true) (hg : Gl X "list") (hm : X.mg "list" = none) (hg2 : Gl X "range") (hm2 : X.mg "range" = none) (h : DE X dc e d)
    (na : starEach [e] X.env = (false, eval e X.env) :: starEach [] X.env := by rfl) (na2 : starEach [.Call (.Name "range" p2) [e] [] pos2] X.env = (false, eval (.Call (.Name "range" p2) [e] [] pos2) X.env) :: starEach [] X.env := by rfl) :
    DE X dc (.Call (.Name "list" p) [.Call (.Name "range" p2) [e] [] pos2] [] pos) (fun ρ Q => d ρ fun x => asInt x fun n => (0 ≤ n ∧ n ≤ 16777216) ∧ Q (.lst ((List.range n.toNat).map fun (i : Nat) => D.int i))) := by
  have m := h.mono
  obtain ⟨t, q, r⟩ := h.get
  refine ⟨fun ρ P P' hP h => m _ _ _ (fun x h => asInt.mono (fun n ⟨a, b⟩ => ⟨a, hP _ b⟩) h) h, _, pe_listRg hc hg hm (prg_1 hg2 hm2 q na) na2, fun ρ σ F H Q pr s h => r pr s h fun x v F1 H1 h e1 rx => ?_⟩
  obtain ⟨n, rfl, ⟨n0, n1⟩, h⟩ := h.inv
  cases rx
  refine ⟨n, rfl, RgOk.of_le (Int.le_refl _) n1 (by decide) n0, fun a na => ?_⟩
  have rr : Reps dc F1 ((List.range n.toNat).map fun (i : Nat) => D.int i) (rgV 0 n) := by
    unfold rgV
    rw [Int.sub_zero]
    exact Reps.rg _
  obtain ⟨e2, r2⟩ := Ext.lst e1.pre na rr
  exact h _ _ _ (e1.trans pr e2) r2
end
/-! ### for (a, b), n in d.items(), d a dict under tuples; f"{x} {y}"; " ".join(t); (x, *y) -/
/-! f-strings -/
abbrev DTJ := DEnv → Str → (Str → Prop) → Prop
section
variable {X : Cx} {dc : Option Addr} {e e1 : Expr} {es : List Expr} {d d1 : DT} {r : DTJ} {pos apos : Pos}
/-! "..".join(x), x a tuple of texts -/
/-! (x, *y) -/
def dStar (d : DT) (r : DTA) : DTA := fun ρ Q => d ρ fun x => asSeq x fun xs => r ρ fun ys => Q (xs ++ ys)
theorem da_star {p : Pos} {r : DTA} (h : DE X dc e d) (hr : DA X dc es r) (hs : starEach (.Starred e p :: es) X.env = (true, eval e X.env) :: starEach es X.env := by rfl) : DA X dc (.Starred e p :: es) (dStar d r) := by
  have m := h.mono
  have m1 := hr.mono
  obtain ⟨t, p, rd⟩ := h.get
  obtain ⟨t1, p1, r1⟩ := hr.get
  refine ⟨fun ρ P P' hP h => m _ _ _ (fun x h => asSeq.mono (fun xs h => m1 _ _ _ (fun ys q => hP _ q) h) h) h, _, StX.pa_star p p1 hs, fun ρ σ F H Q pr s h => rd pr s h fun x v F1 H1 h e1 rx => ?_⟩
  obtain ⟨xs, hx, h⟩ := h.inv
  obtain ⟨a, vs, ev, sq, rr⟩ := rx.seq (K := X.K) e1.pre hx
  refine ⟨a, vs, ev, sq.symm, r1 e1.pre (s.mono e1.fsub) h fun ys us F2 H2 h e2 ry => ?_⟩
  exact h _ _ _ (e1.trans pr e2) ((e2.reps rr).app ry)
end
/-! ### k61: the fewest ends, the program's -/
abbrev s_all_sums : Stmt := topS 4
theorem sc_all_sums : FnScope ["counts", "sums", "many", "ahead"] ["counts"] (defScope s_all_sums) := ⟨rfl, rfl, rfl, by decide +kernel, rfl, by decide +kernel, by decide +kernel⟩
abbrev s_fewest_counts : Stmt := topS 5
theorem sc_fewest_counts : FnScope ["lacks", "most", "order", "counts", "at", "sums", "_", "mask"] ["lacks", "most", "order"] (defScope s_fewest_counts) := ⟨rfl, rfl, rfl, by decide +kernel, rfl, by decide +kernel, by decide +kernel⟩
abbrev s_fewest_sum : Stmt := topS 6
theorem sc_fewest_sum : FnScope ["lacks", "most"] ["lacks", "most"] (defScope s_fewest_sum) := ⟨rfl, rfl, rfl, by decide +kernel, rfl, by decide +kernel, by decide +kernel⟩
abbrev s_check_fold : Stmt := topS 39
theorem sc_check_fold : FnScope ["net", "fold"] ["net", "fold"] (defScope s_check_fold) := ⟨rfl, rfl, rfl, by decide +kernel, rfl, by decide +kernel, by decide +kernel⟩
abbrev s__lack_below : Stmt := topS 40
theorem sc__lack_below : FnScope ["fold", "cut"] ["fold", "cut"] (defScope s__lack_below) := ⟨rfl, rfl, rfl, by decide +kernel, rfl, by decide +kernel, by decide +kernel⟩
abbrev s_all_lacks : Stmt := topS 41
theorem sc_all_lacks : FnScope ["net", "fold", "cut"] ["net", "fold"] (defScope s_all_lacks) := ⟨rfl, rfl, rfl, by decide +kernel, rfl, by decide +kernel, by decide +kernel⟩
abbrev s_fewest_ends : Stmt := topS 42
theorem sc_fewest_ends : FnScope ["net", "fold"] ["net", "fold"] (defScope s_fewest_ends) := ⟨rfl, rfl, rfl, by decide +kernel, rfl, by decide +kernel, by decide +kernel⟩
abbrev s_half_up : Stmt := topS 43
theorem sc_half_up : FnScope ["many"] ["many"] (defScope s_half_up) := ⟨rfl, rfl, rfl, by decide +kernel, rfl, by decide +kernel, by decide +kernel⟩
abbrev s_fewest_ties : Stmt := topS 45
theorem sc_fewest_ties : FnScope ["net", "fold"] ["net", "fold"] (defScope s_fewest_ties) := ⟨rfl, rfl, rfl, by decide +kernel, rfl, by decide +kernel, by decide +kernel⟩
section
variable {P : Program} {w : World} {K : PySem.W.Frag} {mg : Str → Option Value} {base : Heap} {C : Addr}
theorem sFor_here {w : DTI} {is : List Nat} {g : DTG} {body : DTS} {E : DEnds} {ρ : SEnv} (D' : List D → Prop) (hw : ∀ Q : List D → Prop, (∀ xs, D' xs → Q xs) → w (visD ρ) Q) (h : ∀ xs, D' xs → dFor is g body E xs ρ) : sFor w is g body E ρ := hw _ h
theorem sSeq_of {a b : DTS} {E : DEnds} {ρ : SEnv} (I : SEnv → Prop) (ha : ∀ N : SEnv → Prop, (∀ ρ', I ρ' → N ρ') → a { nx := N, rt := E.rt, bk := E.bk, ct := E.ct } ρ) (hb : ∀ ρ', I ρ' → b E ρ') : sSeq a b E ρ := ha _ hb
theorem sSeq_no {c : DTB} {s b : DTS} {E : DEnds} {ρ : SEnv} (hc : ∀ K : Bool → Prop, K false → c (visD ρ) K) (h : b E ρ) : sSeq (sIf c s fun E ρ => E.nx ρ) b E ρ := hc _ h
namespace O61
open O8 O12 O30
def sumM (m : Str → Int) (l : List Str) : Int := (l.map m).sum
theorem sumM_snoc (m : Str → Int) (l : List Str) (p : Str) : sumM m (l ++ [p]) = sumM m l + m p := by
  unfold sumM
  rw [List.map_append, List.sum_append]
  simp
def spAllSums : DSp := fun xs Q => ∃ (ps : List Str) (m : Str → Int), xs = [.lst (ps.map fun v => .int (m v))] ∧ ps.length ≤ 9 ∧ Q (.lst ((allS ps).map fun l => .int (sumM m l)))
theorem ok_all_sums {f : Addr} {fd : FuncData} {k : Nat} (F : Fun K "all_sums" "all_sums" s_all_sums f fd)  : FnOk P w K mg base CX0 (k + 1) f fd ["counts"] (spD spAllSums) := by
  refine fnD_ok F sc_all_sums (fun xs Q h => ?_) (fun dc cdv A outer s0 H E hr =>
    (dss_cons (ds_set (i := 1) sc_all_sums.nd rfl (by first | exact Or.inl rfl | exact Or.inr rfl) (de_lst (da_cons de_int da_nil)))
      (dss_cons (ds_for PassesOwn.never rfl (di_seq (de_var 0)) (dg_name (i := 2) sc_all_sums.nd rfl (by first | exact Or.inl rfl | exact Or.inr rfl)) (dss_one (ds_set (i := 1) sc_all_sums.nd rfl (by first | exact Or.inl rfl | exact Or.inr rfl) (de_op opd_add (de_var 1) (de_lc (own := [("ahead", 3)]) rfl sc_all_sums.nd (di_seq (de_var 1)) (blkOk_by (N := ["counts", "sums", "many", "ahead"]) (sc := defScope s_all_sums) (by decide +kernel)) (fun _ _ _ _ _ => (dg_name (i := 3) sc_all_sums.nd rfl (Or.inl rfl))) (fun _ _ _ _ _ => dts_nil) (fun _ _ _ _ _ => (de_op opd_add (de_var 3) (de_var 2))) (by decide))))))
      (dss_one (ds_ret (de_var 1)))))) (fun xs Q h => ?_)
  · obtain ⟨ps, m, rfl, _⟩ := h; rfl
  · obtain ⟨ps, m, rfl, h9, q⟩ := h
    walk_at "dred7"
    refine ⟨by decide, ?_⟩
    refine dFor_go (xs := ps) (h := fun v => D.int (m v)) (fun d ρ => ∃ s2 s3, ρ = [Sl.val (D.lst (ps.map fun v => D.int (m v))), .val (.lst ((allS d).map fun l => D.int (sumM m l))), s2, s3]) ⟨.emp, .emp, rfl⟩ (fun d x r e ρ ⟨s2, s3, hρ⟩ E2 hE hrt => ?_) (fun ρ ⟨s2, s3, hρ⟩ => ?_)
    · subst hρ
      have hdl : d.length ≤ 9 := by
        have := congrArg List.length e
        rw [List.length_append, List.length_cons] at this
        omega
      have hsm := allS_small hdl
      walk_at "dred7"
      refine ⟨by rw [List.length_map]; exact Nat.le_of_lt (small1000 hsm), lcL_all (g := fun l => D.int (sumM m l + m x)) (fun l hl K' hK => ?_) ?_⟩
      · walk_at "dred7"
        exact hK
      · have hsz : (allS d).length + (allS d).length ≤ sizeLine := Nat.le_trans (show _ ≤ 2000 by omega) (by decide)
        rw [List.length_map, List.length_map]
        have key : (allS d).map (fun l => D.int (sumM m l)) ++ (allS d).map (fun l => D.int (sumM m l + m x)) = (allS (d ++ [x])).map fun l => D.int (sumM m l) := by
          rw [allS_snoc, List.map_append, List.map_map]
          congr 1
          refine List.map_congr_left fun l _ => ?_
          show _ = D.int (sumM m (l ++ [x]))
          rw [sumM_snoc]
        rw [key]
        exact ⟨hsz, hE _ ⟨_, _, rfl⟩⟩
    · subst hρ
      walk_at "dred7"
      exact q
theorem noLns_ints {α : Type} {n : Nat} {f : α → Int} : ∀ {xs : List α}, noLns n (xs.map fun x => D.int (f x)) = true
  | [] => rfl
  | x :: xs => by rw [List.map_cons, noLns, noLns_ints]; rfl
/-- numbers that are enough for all lots, and for each place there is a lot that wants them all -/
structure CntOk (ps : List Str) (L : List Str → Int) (m : Str → Int) : Prop where
  nn : ∀ v ∈ ps, 0 ≤ m v
  ge : ∀ l ∈ allS ps, L l ≤ sumM m l
  tight : ∀ v ∈ ps, ∃ l ∈ allS ps, v ∈ l ∧ sumM m l = L l
structure CntPart (ps : List Str) (L : List Str → Int) (m : Str → Int) (i : Nat) : Prop where
  nn : ∀ v ∈ ps, 0 ≤ m v
  ge : ∀ l ∈ allS ps, L l ≤ sumM m l
  tight : ∀ j, j < i → ∀ v, ps[j]? = some v → ∃ l ∈ allS ps, v ∈ l ∧ sumM m l = L l
def setM (m : Str → Int) (v : Str) (c : Int) : Str → Int := fun w => if w = v then c else m w
theorem setM_set {m : Str → Int} {v : Str} {c : Int} : ∀ {ps : List Str} {i : Nat}, ps.Nodup → ps[i]? = some v → (ps.map fun w => D.int (m w)).set i (.int c) = ps.map fun w => D.int (setM m v c w)
  | [], i, _, h => by cases h
  | p :: r, 0, nd, h => by
    cases h
    obtain ⟨n1, n2⟩ := List.nodup_cons.mp nd
    rw [List.map_cons, List.set_cons_zero, List.map_cons]
    congr 1
    · unfold setM; rw [if_pos rfl]
    · refine List.map_congr_left fun w hw => ?_
      unfold setM
      rw [if_neg (fun z => n1 (by rw [← z]; exact hw))]
  | p :: r, i + 1, nd, h => by
    obtain ⟨n1, n2⟩ := List.nodup_cons.mp nd
    rw [List.getElem?_cons_succ] at h
    rw [List.map_cons, List.set_cons_succ, List.map_cons, setM_set n2 h]
    congr 1
    unfold setM
    rw [if_neg (fun z => n1 (by rw [z]; exact List.mem_of_getElem? h))]
theorem sumM_set {m : Str → Int} {v : Str} {c : Int} : ∀ {l : List Str}, l.Nodup → sumM (setM m v c) l = sumM (setM m v 0) l + if v ∈ l then c else 0
  | [], _ => rfl
  | p :: r, nd => by
    obtain ⟨n1, n2⟩ := List.nodup_cons.mp nd
    have ih := sumM_set (m := m) (v := v) (c := c) n2
    have e1 : ∀ f : Str → Int, sumM f (p :: r) = f p + sumM f r := fun f => by unfold sumM; rw [List.map_cons, List.sum_cons]
    rw [e1, e1, ih]
    by_cases h : p = v
    · have : v ∉ r := by rw [← h]; exact n1
      rw [if_neg this, if_pos (by rw [h]; exact List.mem_cons_self)]
      unfold setM
      rw [if_pos h, if_pos h]
      omega
    · have : setM m v c p = setM m v 0 p := by unfold setM; rw [if_neg h, if_neg h]
      rw [this]
      by_cases hv : v ∈ r
      · rw [if_pos hv, if_pos (List.mem_cons_of_mem _ hv)]
        omega
      · rw [if_neg hv, if_neg (fun z => by rcases List.mem_cons.mp z with z | z; exact h z.symm; exact hv z)]
        omega
theorem setM_self {m : Str → Int} {v : Str} : setM m v (m v) = m := funext fun w => by
  unfold setM
  split
  · rename_i h; rw [h]
  · rfl
theorem sumM_le {m n : Str → Int} : ∀ {l : List Str}, (∀ v ∈ l, m v ≤ n v) → sumM m l ≤ sumM n l
  | [], _ => Int.le_refl _
  | p :: r, h => by
    have e1 : ∀ f : Str → Int, sumM f (p :: r) = f p + sumM f r := fun f => by unfold sumM; rw [List.map_cons, List.sum_cons]
    rw [e1, e1]
    have a := sumM_le (m := m) (n := n) (l := r) fun v hv => h v (List.mem_cons_of_mem _ hv)
    have b := h p List.mem_cons_self
    omega
theorem bit_lot {ps : List Str} {i x : Nat} {v : Str} (nd : ps.Nodup) (hx : x < 2 ^ ps.length) (hv : ps[i]? = some v) : x.testBit i = decide (v ∈ lotA ps 0 x) := by
  have e := mm_bit (lotA ps 0 x) ps i
  rw [mm_lotA nd hx, hv] at e
  exact e
/-- one more place is brought down to what is wanted -/
theorem CntPart.step {ps : List Str} {L : List Str → Int} {m : Str → Int} {i : Nat} {v : Str} {c : Int} (nd : ps.Nodup) (h0 : ∀ l, 0 ≤ L l) (h : CntPart ps L m i) (hv : ps[i]? = some v)
    (hc : ∃ l ∈ allS ps, v ∈ l ∧ c = L l - sumM (setM m v 0) l) (hm : ∀ l ∈ allS ps, v ∈ l → L l - sumM (setM m v 0) l ≤ c) : CntPart ps L (setM m v c) (i + 1) := by
  have vps := List.mem_of_getElem? hv
  have ndl : ∀ l ∈ allS ps, l.Nodup := fun l hl => nd.sublist (mem_allS.mp hl)
  obtain ⟨l0, hl0, vl0, ec⟩ := hc
  have em : ∀ l ∈ allS ps, sumM m l = sumM (setM m v 0) l + if v ∈ l then m v else 0 := fun l hl => by
    have := sumM_set (m := m) (v := v) (c := m v) (ndl l hl)
    rw [setM_self] at this
    exact this
  have cm : c ≤ m v := by
    have a := h.ge l0 hl0
    rw [em l0 hl0, if_pos vl0] at a
    omega
  have le : ∀ w, setM m v c w ≤ m w := fun w => by
    unfold setM
    split
    · rename_i z; rw [z]; exact cm
    · exact Int.le_refl _
  have one : [v] ∈ allS ps := mem_allS.mpr (List.singleton_sublist.mpr vps)
  have c0 : 0 ≤ c := by
    have a := hm [v] one List.mem_cons_self
    have b := h0 [v]
    have z : sumM (setM m v 0) [v] = 0 := by unfold sumM setM; simp
    omega
  have ge : ∀ l ∈ allS ps, L l ≤ sumM (setM m v c) l := fun l hl => by
    rw [sumM_set (ndl l hl)]
    by_cases vl : v ∈ l
    · rw [if_pos vl]
      have := hm l hl vl
      omega
    · rw [if_neg vl]
      have a := h.ge l hl
      rw [em l hl, if_neg vl] at a
      exact a
  refine ⟨fun w hw => ?_, ge, fun j hj w hw => ?_⟩
  · unfold setM
    split
    · exact c0
    · exact h.nn w hw
  · by_cases hji : j = i
    · subst hji
      rw [hv] at hw
      cases hw
      refine ⟨l0, hl0, vl0, ?_⟩
      rw [sumM_set (ndl l0 hl0), if_pos vl0, ec]
      omega
    · obtain ⟨l, hl, wl, e⟩ := h.tight j (by omega) w hw
      refine ⟨l, hl, wl, Int.le_antisymm ?_ (ge l hl)⟩
      rw [← e]
      exact sumM_le fun w _ => le w
def spFewCounts : DSp := fun xs Q => ∃ (ps : List Str) (L : List Str → Int) (k : Int), xs = [.lst ((allS ps).map fun l => .int (L l)), .int k, .lst ((List.range ps.length).map fun (i : Nat) => .int i)] ∧ ps.Nodup ∧ ps.length ≤ 9 ∧ (∀ l, 0 ≤ L l ∧ L l ≤ k) ∧ L [] = 0 ∧
  ∀ m, CntOk ps L m → Q (.lst (ps.map fun v => .int (m v)))
theorem ok_fewest_counts {f : Addr} {fd : FuncData} {k : Nat} (F : Fun K "fewest_counts" "fewest_counts" s_fewest_counts f fd) (m_max : mg "max" = none) (m_len : mg "len" = none) (m_range : mg "range" = none) (G_all_sums : DFn P w K mg base k "all_sums" [] spAllSums) (G_has_place : DFn P w K mg base k "has_place" [] spHasPlace) : FnOk P w K mg base CX0 (k + 1) f fd ["lacks", "most", "order"] (spD spFewCounts) := by
  refine fnD_ok F sc_fewest_counts (fun xs Q h => ?_) (fun dc cdv A outer s0 H E hr =>
    (dss_cons (ds_ownLc (i := 3) (own := [("_", 6)]) rfl sc_fewest_counts.nd rfl rfl (sw_true rfl rfl (by decide +kernel) (by decide +kernel)) (di_seq (de_var 2)) (blkOk_by (N := ["lacks", "most", "order", "counts", "at", "sums", "_", "mask"]) (sc := defScope s_fewest_counts) (by decide +kernel)) (fun _ _ _ _ _ => (dg_name (i := 6) sc_fewest_counts.nd rfl (Or.inl rfl))) (fun _ _ _ _ _ => dts_nil) (fun _ _ _ _ _ => (de_var 1)) (by decide))
      (dss_cons (ds_for PassesOwn.never rfl (di_seq (de_var 2)) (dg_name (i := 4) sc_fewest_counts.nd rfl (by first | exact Or.inl rfl | exact Or.inr rfl)) (dss_cons (ds_putI (i := 3) rfl (by first | exact Or.inl rfl | exact Or.inr rfl | exact Or.inr (Or.inl rfl) | exact Or.inr (Or.inr rfl) | rfl) (de_var 4) de_int)
      (dss_cons (ds_peekL (i := 3) (j := 5) sc_fewest_counts.nd rfl (by first | exact Or.inl rfl | exact Or.inr rfl) (de_fn G_all_sums hr (Nat.le_refl _) (by rfl) (da_cons (de_var 3) da_nil)))
      (dss_one (ds_putI (i := 3) rfl (by first | exact Or.inl rfl | exact Or.inr rfl | exact Or.inr (Or.inl rfl) | exact Or.inr (Or.inr rfl) | rfl) (de_var 4) (de_callB (cd_max rfl) (by rfl) m_max (by decide +kernel) (da_cons (de_lc (own := [("mask", 7)]) rfl sc_fewest_counts.nd (di_range1 (by rfl) m_range (da_cons (de_callB cd_len (by rfl) m_len (by decide +kernel) (da_cons (de_var 0) da_nil)) da_nil)) (blkOk_by (N := ["lacks", "most", "order", "counts", "at", "sums", "_", "mask"]) (sc := defScope s_fewest_counts) (by decide +kernel)) (fun _ _ _ _ _ => (dg_name (i := 7) sc_fewest_counts.nd rfl (Or.inl rfl))) (fun _ _ _ _ _ => (dts_one (dc_val (de_fn G_has_place hr (Nat.le_refl _) (by rfl) (da_cons (de_var 7) (da_cons (de_var 4) da_nil)))))) (fun _ _ _ _ _ => (de_op opd_sub (de_sub (hu_of hr) (de_var 0) (de_var 7)) (de_sub (hu_of hr) (de_var 5) (de_var 7)))) (by decide)) da_nil)))))))
      (dss_freeze 3 (dss_one (ds_ret (de_var 3))))))) (fun xs Q h => ?_)
  · obtain ⟨ps, L, k, rfl, _⟩ := h; rfl
  · obtain ⟨ps, L, k, rfl, nd, h9, hL, hL0, q⟩ := h
    have al := allS_len ps
    have sm := allS_small h9
    have rl : (List.range ps.length).length = ps.length := List.length_range
    have k0 : 0 ≤ k := Int.le_trans (hL []).1 (hL []).2
    refine sSeq_of (I := fun ρ => ρ = [Sl.val (D.lst ((allS ps).map fun l => D.int (L l))), .val (.int k), .val (.lst ((List.range ps.length).map fun (i : Nat) => D.int i)), .own (.lst (ps.map fun _ => D.int k)), .emp, .emp, .emp, .emp]) (fun N hN => ?_) (fun ρ hρ => ?_)
    · unfold sOwnL
      walk_at "dred7"
      refine ⟨by rw [List.length_map, rl]; exact Nat.le_trans h9 (by decide), ?_⟩
      refine lcL_all (g := fun _ => D.int k) (fun i hi K' hK => ?_) ?_
      · walk_at "dred7"
        exact hK
      · have e : (List.range ps.length).map (fun _ => D.int k) = ps.map fun _ => D.int k := by
          rw [List.map_const', List.map_const', rl]
        rw [e]
        exact hN _ rfl
    subst hρ
    refine sSeq_of (I := fun ρ => ∃ m s4 s5 s6 s7, CntPart ps L m ps.length ∧ ρ = [Sl.val (D.lst ((allS ps).map fun l => D.int (L l))), .val (.int k), .val (.lst ((List.range ps.length).map fun (i : Nat) => D.int i)), .own (.lst (ps.map fun v => D.int (m v))), s4, s5, s6, s7]) (fun N hN => ?_) (fun ρ ⟨m, s4, s5, s6, s7, hm, hρ⟩ => ?_)
    · refine sFor_here (D' := fun xs => xs = (List.range ps.length).map fun (i : Nat) => D.int i) (fun Q' hq => ?_) (fun xs hx => ?_)
      · walk_at "dred7"
        exact hq _ rfl
      subst hx
      have start : CntPart ps L (fun _ => k) 0 := ⟨fun _ _ => k0, fun l hl => by
        cases l with
        | nil => rw [hL0]; exact Int.le_refl _
        | cons p r =>
          have a := (hL (p :: r)).2
          have b : sumM (fun _ => k) (p :: r) = k + sumM (fun _ => k) r := by unfold sumM; rw [List.map_cons, List.sum_cons]
          have c : sumM (fun _ => (0 : Int)) r ≤ sumM (fun _ => k) r := sumM_le fun _ _ => k0
          have z : sumM (fun _ => (0 : Int)) r = 0 := by
            clear c a b hl
            induction r with
            | nil => rfl
            | cons _ r ih => unfold sumM at ih ⊢; rw [List.map_cons, List.sum_cons, ih]; rfl
          omega, fun j hj => by omega⟩
      refine dFor_go (xs := List.range ps.length) (h := fun (i : Nat) => D.int i) (fun d ρ => ∃ m s4 s5 s6 s7, CntPart ps L m d.length ∧ ρ = [Sl.val (D.lst ((allS ps).map fun l => D.int (L l))), .val (.int k), .val (.lst ((List.range ps.length).map fun (i : Nat) => D.int i)), .own (.lst (ps.map fun v => D.int (m v))), s4, s5, s6, s7]) ⟨fun _ => k, .emp, .emp, .emp, .emp, start, rfl⟩ (fun d x r e ρ ⟨m, s4, s5, s6, s7, hm, hρ⟩ E2 hE hrt => ?_) (fun ρ ⟨m, s4, s5, s6, s7, hm, hρ⟩ => ?_)
      · subst hρ
        have ex : x = d.length := by
          have a : (List.range ps.length)[d.length]? = some x := by rw [e, List.getElem?_append_right (Nat.le_refl _), Nat.sub_self]; rfl
          have b := (List.getElem?_eq_some_iff.mp a).1
          rw [rl] at b
          rw [List.getElem?_range b] at a
          exact (Option.some.inj a).symm
        have hxl : d.length < ps.length := by
          have := congrArg List.length e
          rw [List.length_append, List.length_cons, rl] at this
          omega
        subst ex
        obtain ⟨v, hv⟩ : ∃ v, ps[d.length]? = some v := ⟨_, List.getElem?_eq_getElem hxl⟩
        have ix : ∀ ys : List D, ys.length = ps.length → ixN ys.length ((d.length : Nat) : Int) = some d.length := fun ys hy => by
          unfold ixN
          rw [hy, if_pos (by omega), if_pos (by omega)]
          rfl
        unfold gN
        dsimp only
        refine sSeq_of (I := fun ρ => ∃ s5 s6 s7, ρ = [Sl.val (D.lst ((allS ps).map fun l => D.int (L l))), .val (.int k), .val (.lst ((List.range ps.length).map fun (i : Nat) => D.int i)), .own (.lst (ps.map fun w => D.int (setM m v 0 w))), .val (.int (d.length : Nat)), s5, s6, s7]) (fun N2 hN2 => ?_) (fun ρ ⟨s5, s6, s7, hρ⟩ => ?_)
        · unfold sPutI
          walk_at "dred7"
          refine ⟨_, rfl, d.length, ix _ (List.length_map ..), ?_⟩
          rw [setM_set nd hv]
          exact hN2 _ ⟨_, _, _, rfl⟩
        subst hρ
        refine sSeq_of (I := fun ρ => ∃ s6 s7, ρ = [Sl.val (D.lst ((allS ps).map fun l => D.int (L l))), .val (.int k), .val (.lst ((List.range ps.length).map fun (i : Nat) => D.int i)), .own (.lst (ps.map fun w => D.int (setM m v 0 w))), .val (.int (d.length : Nat)), .val (.lst ((allS ps).map fun l => D.int (sumM (setM m v 0) l))), s6, s7]) (fun N2 hN2 => ?_) (fun ρ ⟨s6, s7, hρ⟩ => ?_)
        · unfold sPeekL
          walk_at "dred7"
          refine ⟨_, rfl, ps, setM m v 0, rfl, h9, ?_, hN2 _ ⟨_, _, rfl⟩⟩
          rw [noLn, noLns_ints, Bool.and_true, Bool.not_eq_true', decide_eq_false_iff_not, List.length_map, List.length_map, al]
          have := @Nat.lt_two_pow_self ps.length
          omega
        subst hρ
        unfold sPutI
        refine ⟨_, rfl, ?_⟩
        have vis2 : visD [Sl.val (D.lst ((allS ps).map fun l => D.int (L l))), .val (.int k), .val (.lst ((List.range ps.length).map fun (i : Nat) => D.int i)), .own (.lst (ps.map fun w => D.int (setM m v 0 w))), .val (.int (d.length : Nat)), .val (.lst ((allS ps).map fun l => D.int (sumM (setM m v 0) l))), s6, s7] = [some (D.lst ((allS ps).map fun l => D.int (L l))), some (.int k), some (.lst ((List.range ps.length).map fun (i : Nat) => D.int i)), none, some (.int (d.length : Nat)), some (.lst ((allS ps).map fun l => D.int (sumM (setM m v 0) l)))] ++ visD [s6, s7] := rfl
        rw [vis2]
        walk_at "dred7"
        unfold iRg1
        walk_at "dred7"
        have eN : (((((allS ps).map fun l => D.int (L l)).length : Nat) : Int)).toNat = (allS ps).length := by rw [List.length_map]; rfl
        rw [eN]
        refine ⟨by omega, by rw [List.length_map]; omega, by rw [List.length_map, List.length_range]; exact Nat.le_of_lt (small1000 sm), ?_⟩
        refine lcL_filter (g := fun x => D.int (L (lotA ps 0 x) - sumM (setM m v 0) (lotA ps 0 x))) (c := fun x => x.testBit d.length) (fun x hx K' hK => ?_) ?_
        · have hx2 : x < 2 ^ ps.length := by rw [← al]; exact List.mem_range.mp hx
          have at1 : ∀ f : List Str → Int, atI ((allS ps).map fun l => D.int (f l)) ((x : Nat) : Int) = some (.int (f (lotA ps 0 x))) := fun f => by
            refine (L2.atI_nat ?_)
            rw [List.getElem?_map, lot_at ps x hx2]
            rfl
          walk_at "dred7"
          refine ⟨x, d.length, rfl, ?_⟩
          cases hb : x.testBit d.length with
          | true =>
            rw [hb, if_pos rfl] at hK
            rw [asBl_bl, if_pos rfl, at1, onSome_some, at1, onSome_some]
            exact hK
          | false =>
            rw [hb, if_neg Bool.false_ne_true] at hK
            exact hK
        have e2 : ((List.range (allS ps).length).filter fun x => x.testBit d.length).map (fun x => D.int (L (lotA ps 0 x) - sumM (setM m v 0) (lotA ps 0 x))) = (((List.range (allS ps).length).filter fun x => x.testBit d.length).map fun x => L (lotA ps 0 x) - sumM (setM m v 0) (lotA ps 0 x)).map D.int := by rw [List.map_map]; rfl
        rw [e2]
        have mem : ∀ l ∈ allS ps, v ∈ l → mm ps l ∈ (List.range (allS ps).length).filter fun x => x.testBit d.length := fun l hl vl => by
          refine List.mem_filter.mpr ⟨List.mem_range.mpr (by rw [al]; exact mm_lt l ps), ?_⟩
          have e := mm_bit l ps d.length
          rw [hv] at e
          rw [e]
          exact decide_eq_true vl
        have one : [v] ∈ allS ps := mem_allS.mpr (List.singleton_sublist.mpr (List.mem_of_getElem? hv))
        refine asInts.of ⟨?_, fun c hc hmax => ⟨d.length, ix _ (List.length_map ..), ?_⟩⟩
        · rw [List.length_map]
          exact List.length_pos_of_mem (mem [v] one List.mem_cons_self)
        · have ec : setM (setM m v 0) v c = setM m v c := funext fun w => by
            unfold setM
            split <;> rfl
          rw [setM_set nd hv, ec]
          refine hE _ ⟨setM m v c, _, _, _, _, ?_, rfl⟩
          rw [List.length_append, List.length_singleton]
          refine hm.step nd (fun l => (hL l).1) hv ?_ fun l hl vl => ?_
          · obtain ⟨x, hx, e⟩ := List.mem_map.mp hc
            obtain ⟨hx1, hx2⟩ := List.mem_filter.mp hx
            have hx3 : x < 2 ^ ps.length := by rw [← al]; exact List.mem_range.mp hx1
            refine ⟨lotA ps 0 x, mem_allS.mpr (lotA_sub x ps 0), ?_, e.symm⟩
            rw [bit_lot nd hx3 hv] at hx2
            exact of_decide_eq_true hx2
          · have hx := mem l hl vl
            have := hmax _ (List.mem_map.mpr ⟨_, hx, rfl⟩)
            rw [lotA_mm nd (mem_allS.mp hl)] at this
            exact this
      · subst hρ
        rw [rl] at hm
        exact hN _ ⟨m, _, _, _, _, hm, rfl⟩
    subst hρ
    walk_at "dred7"
    refine ⟨_, rfl, q m ⟨hm.nn, hm.ge, fun v hv => ?_⟩⟩
    obtain ⟨j, hj, e⟩ := List.getElem_of_mem hv
    exact hm.tight j hj v (by rw [List.getElem?_eq_getElem hj, e])
theorem cut_nn {ts : Ties} (pos : ∀ e ∈ ts, 1 ≤ e.2) (l : List Str) : 0 ≤ cutT ts l := by
  unfold cutT
  have : ∀ r : Ties, (∀ e ∈ r, 1 ≤ e.2) → 0 ≤ ((r.filter fun e => parts l e.1).map (·.2)).sum := fun r => by
    induction r with
    | nil => intro _; exact Int.le_refl _
    | cons e r ih =>
      intro h
      have i1 := ih fun x hx => h x (List.mem_cons_of_mem _ hx)
      have i2 := h e List.mem_cons_self
      by_cases c : parts l e.1 = true
      · rw [List.filter_cons_of_pos (p := fun e : (Str × Str) × Int => parts l e.1) c, List.map_cons, List.sum_cons]
        omega
      · rw [List.filter_cons_of_neg (p := fun e : (Str × Str) × Int => parts l e.1) c]
        exact i1
  exact this ts pos
theorem bits_pow : ∀ n, n < 10 → Builtin.Int.intBits (((2 : Nat) ^ n : Nat) : Int) = n + 1 := by decide +kernel
def spFewSum : DSp := fun xs Q => ∃ (ps : List Str) (L : List Str → Int) (k : Int), xs = [.lst ((allS ps).map fun l => .int (L l)), .int k] ∧ ps.Nodup ∧ ps.length ≤ 9 ∧ (∀ l, 0 ≤ L l ∧ L l ≤ k) ∧ L [] = 0 ∧ ∀ m, CntOk ps L m → Q (.int (sumM m ps))
theorem ok_fewest_sum {f : Addr} {fd : FuncData} {k : Nat} (F : Fun K "fewest_sum" "fewest_sum" s_fewest_sum f fd) (m_sum : mg "sum" = none) (m_list : mg "list" = none) (m_range : mg "range" = none) (m_len : mg "len" = none) (G_fewest_counts : DFn P w K mg base k "fewest_counts" [] spFewCounts) : FnOk P w K mg base CX0 (k + 1) f fd ["lacks", "most"] (spD spFewSum) := by
  refine fnD_ok F sc_fewest_sum (fun xs Q h => ?_) (fun dc cdv A outer s0 H E hr =>
    (dss_one (ds_ret (de_callB (cd_sum rfl) (by rfl) m_sum (by decide +kernel) (da_cons (de_fn G_fewest_counts hr (Nat.le_refl _) (by rfl) (da_cons (de_var 0) (da_cons (de_var 1) (da_cons (de_listRg1 rfl (by rfl) m_list (by rfl) m_range (de_op opd_sub (de_bits (de_callB cd_len (by rfl) m_len (by decide +kernel) (da_cons (de_var 0) da_nil))) de_int)) da_nil)))) da_nil))))) (fun xs Q h => ?_)
  · obtain ⟨ps, L, k, rfl, _⟩ := h; rfl
  · obtain ⟨ps, L, k, rfl, nd, h9, hL, hL0, q⟩ := h
    walk_at "dred7"
    have eb : Builtin.Int.intBits ((((allS ps).map fun l => D.int (L l)).length : Nat) : Int) = ps.length + 1 := by
      rw [List.length_map, allS_len]
      exact bits_pow _ (by omega)
    rw [eb]
    have e0 : ((ps.length + 1 : Nat) : Int) - 1 = (ps.length : Nat) := by omega
    rw [e0]
    refine ⟨⟨by omega, by omega⟩, ps, L, k, rfl, nd, h9, hL, hL0, fun m hm => ?_⟩
    have e : (ps.map fun v => D.int (m v)) = (ps.map m).map D.int := by rw [List.map_map]; rfl
    rw [e]
    exact asInts.of (q m hm)
def spLackBelow : DSp := fun xs Q => ∃ k c : Int, xs = [.int k, .int c] ∧ Q (.int (if 0 < k - c then k - c else 0))
theorem ok__lack_below {f : Addr} {fd : FuncData} {k : Nat} (F : Fun K "_lack_below" "_lack_below" s__lack_below f fd) (m_max : mg "max" = none) : FnOk P w K mg base CX0 (k + 1) f fd ["fold", "cut"] (spD spLackBelow) := by
  refine fnD_ok F sc__lack_below (fun xs Q h => ?_) (fun dc cdv A outer s0 H E hr =>
    (dss_one (ds_ret (de_callB (cd_max2 rfl) (by rfl) m_max (by decide +kernel) (da_cons de_int (da_cons (de_op opd_sub (de_var 0) (de_var 1)) da_nil)))))) (fun xs Q h => ?_)
  · obtain ⟨k, c, rfl, _⟩ := h; rfl
  · obtain ⟨k, c, rfl, q⟩ := h
    walk_at "dred7"
    exact q
def lackT (ps : List Str) (ts : Ties) (k : Int) (l : List Str) : Int := if l = [] ∨ l = ps then 0 else if 0 < k - cutT ts l then k - cutT ts l else 0
theorem allS_last : ∀ l : List Str, ∃ M, allS l = M ++ [l] := snoc_ind ⟨[], rfl⟩ fun l p ⟨M, e⟩ => by
  refine ⟨allS l ++ M.map (· ++ [p]), ?_⟩
  rw [allS_snoc]
  conv => lhs; rw [e]
  conv => rhs; rw [e]
  simp
theorem allS_mid {ps : List Str} (nd : ps.Nodup) (h : ps ≠ []) : ∃ M, allS ps = [] :: (M ++ [ps]) ∧ ∀ l ∈ M, l ≠ [] ∧ l ≠ ps := by
  obtain ⟨r, e1, h1⟩ := allS_head ps
  obtain ⟨M, e2⟩ := allS_last ps
  have na := allS_nodup ps nd
  cases M with
  | nil =>
    rw [e1] at e2
    injection e2 with a b
    exact absurd a.symm h
  | cons x M =>
    rw [e1, List.cons_append] at e2
    injection e2 with a b
    refine ⟨M, by rw [e1, b], fun l hl => ⟨h1 l (by rw [b]; exact List.mem_append_left _ hl), fun z => ?_⟩⟩
    rw [e1, b, List.nodup_cons, List.nodup_append] at na
    exact na.2.2.2 l hl ps (List.mem_singleton.mpr rfl) z
theorem cut_mid {a b : D} {ys : List D} : cutD (a :: (ys ++ [b])) (some 1) (some (-1)) = ys := by
  have l : (a :: (ys ++ [b])).length = ys.length + 2 := by simp
  unfold cutD
  have e1 : HT.sIx (a :: (ys ++ [b])).length 0 (some 1) = 1 := by
    rw [l]
    unfold HT.sIx
    simp
    try omega
  have e2 : HT.sIx (a :: (ys ++ [b])).length (a :: (ys ++ [b])).length (some (-1)) = ys.length + 1 := by
    rw [l]
    unfold HT.sIx
    simp
    try omega
  rw [e1, e2, List.drop_succ_cons, List.drop_zero, Nat.add_sub_cancel, List.take_left']
  rfl
def spAllLacks (C : Addr) : DSp := fun xs Q => ∃ ps ts k, xs = [madeD C ps ts, .int k] ∧ MG ps ts ∧ 1 ≤ ps.length ∧ ps.length ≤ 9 ∧ ts.length ≤ 900 ∧ Q (.lst ((allS ps).map fun l => .int (lackT ps ts k l)))
theorem ok_all_lacks {f : Addr} {fd : FuncData} {k : Nat} (F : Fun K "all_lacks" "all_lacks" s_all_lacks f fd) (G_all_cuts : DFn P w K mg base k "all_cuts" [] (spAllCuts C)) (G__lack_below : DFn P w K mg base k "_lack_below" [] spLackBelow) : FnOk P w K mg base CX0 (k + 1) f fd ["net", "fold"] (spD (spAllLacks C)) := by
  refine fnD_ok F sc_all_lacks (fun xs Q h => ?_) (fun dc cdv A outer s0 H E hr =>
    (dss_one (ds_ret (de_lst (da_cons de_int (da_star (de_lc (own := [("cut", 2)]) rfl sc_all_lacks.nd (di_seq (de_slice (de_fn G_all_cuts hr (Nat.le_refl _) (by rfl) (da_cons (de_var 0) da_nil)) (do_some de_int) (do_some (de_neg de_int)))) (blkOk_by (N := ["net", "fold", "cut"]) (sc := defScope s_all_lacks) (by decide +kernel)) (fun _ _ _ _ _ => (dg_name (i := 2) sc_all_lacks.nd rfl (Or.inl rfl))) (fun _ _ _ _ _ => dts_nil) (fun _ _ _ _ _ => (de_fn G__lack_below hr (Nat.le_refl _) (by rfl) (da_cons (de_var 1) (da_cons (de_var 2) da_nil)))) (by decide)) (da_cons de_int da_nil))))))) (fun xs Q h => ?_)
  · obtain ⟨ps, ts, k, rfl, _⟩ := h; rfl
  · obtain ⟨ps, ts, k, rfl, g, h1, h9, ht, q⟩ := h
    walk_at "dred7"
    unfold dStar
    walk_at "dred7"
    refine ⟨ps, ts, rfl, g, h9, ht, ?_⟩
    obtain ⟨M, eM, hM⟩ := allS_mid (asc_nodup g.asc) (fun z => by rw [z] at h1; exact absurd h1 (by decide))
    have sm := allS_small h9
    have lM : M.length ≤ 1000 := by
      have := congrArg List.length eM
      rw [List.length_cons, List.length_append] at this
      omega
    have ec : cutsD ps ts = .lst (.int (cutT ts []) :: ((M.map fun l => D.int (cutT ts l)) ++ [.int (cutT ts ps)])) := by
      unfold cutsD
      rw [eM]
      simp
    rw [ec]
    show (cutD _ (some 1) (some (-1))).length ≤ sizeLine ∧ lcL _ (cutD _ (some 1) (some (-1))) _
    rw [cut_mid, List.length_map]
    refine ⟨Nat.le_of_lt (small1000 lM), lcL_all (g := fun l => D.int (if 0 < k - cutT ts l then k - cutT ts l else 0)) (fun l hl K' hK => ?_) ?_⟩
    · walk_at "dred7"
      exact ⟨k, cutT ts l, rfl, hK⟩
    refine ⟨?_, ?_⟩
    · rw [List.length_append, List.length_map, List.length_singleton]
      exact Nat.le_trans (show M.length + 1 + 1 ≤ 1002 by omega) (by decide)
    · have e : D.int 0 :: ((M.map fun l => D.int (if 0 < k - cutT ts l then k - cutT ts l else 0)) ++ [D.int 0]) = (allS ps).map fun l => D.int (lackT ps ts k l) := by
        have l0 : lackT ps ts k [] = 0 := if_pos (.inl rfl)
        have l1 : lackT ps ts k ps = 0 := if_pos (.inr rfl)
        have lm : (M.map fun l => D.int (lackT ps ts k l)) = M.map fun l => D.int (if 0 < k - cutT ts l then k - cutT ts l else 0) := List.map_congr_left fun l hl => by
          unfold lackT
          rw [if_neg (fun z => by rcases z with z | z; exact (hM l hl).1 z; exact (hM l hl).2 z)]
        rw [eM, List.map_cons, List.map_append, List.map_singleton, l0, l1, lm]
      rw [e]
      exact q
def spCheckFold (C : Addr) : DSp := fun xs Q => ∃ ps ts k, xs = [madeD C ps ts, .int k] ∧ 2 ≤ k ∧ k ≤ 9 ∧ Q .non
theorem ok_check_fold {f : Addr} {fd : FuncData} {k : Nat} (F : Fun K "check_fold" "check_fold" s_check_fold f fd) {tf : Tok} (m_MAX_FOLD : mg "MAX_FOLD" = some (.int 9 tf)) (G_check_net : DFn P w K mg base k "check_net" [] (spCheckNet C)) (G_is_integer : DFn P w K mg base k "is_integer" [] spIntD) : FnOk P w K mg base CX0 (k + 1) f fd ["net", "fold"] (spD (spCheckFold C)) := by
  refine fnD_ok F sc_check_fold (fun xs Q h => ?_) (fun dc cdv A outer s0 H E hr =>
    (dss_cons (ds_expr (de_fn G_check_net hr (Nat.le_refl _) (by rfl) (da_cons (de_var 0) da_nil)))
      (dss_one (ds_if ((dw_or (dc_not (dc_val (de_fn G_is_integer hr (Nat.le_refl _) (by rfl) (da_cons (de_var 1) da_nil)))) (dw_or1 (dc_not (dc_chain opd_le opd_le de_int (de_var 1) (de_globI (by rfl) m_MAX_FOLD)))))).toC (dss_one ds_never) dss_nil)))) (fun xs Q h => ?_)
  · obtain ⟨ps, ts, k, rfl, _⟩ := h; rfl
  · obtain ⟨ps, ts, k, rfl, k2, k9, q⟩ := h
    walk_at "dred7"
    refine ⟨ps, ts, rfl, k, rfl, by omega, by omega, ?_⟩
    dsimp only
    rw [asBl_bl]
    refine iteF ?_
    unfold dChain
    walk_at "dred7"
    rw [decide_eq_true k2]
    walk_at "dred7"
    rw [decide_eq_true k9]
    exact q
def spFewEnds (C : Addr) : DSp := fun xs Q => ∃ ps ts k, xs = [madeD C ps ts, .int k] ∧ MG ps ts ∧ 1 ≤ ps.length ∧ ps.length ≤ 9 ∧ ts.length ≤ 900 ∧ 2 ≤ k ∧ k ≤ 9 ∧ ∀ m, CntOk ps (lackT ps ts k) m → Q (.int (sumM m ps))
theorem ok_fewest_ends {f : Addr} {fd : FuncData} {k : Nat} (F : Fun K "fewest_ends" "fewest_ends" s_fewest_ends f fd) (G_check_fold : DFn P w K mg base k "check_fold" [] (spCheckFold C)) (G_fewest_sum : DFn P w K mg base k "fewest_sum" [] spFewSum) (G_all_lacks : DFn P w K mg base k "all_lacks" [] (spAllLacks C)) : FnOk P w K mg base CX0 (k + 1) f fd ["net", "fold"] (spD (spFewEnds C)) := by
  refine fnD_ok F sc_fewest_ends (fun xs Q h => ?_) (fun dc cdv A outer s0 H E hr =>
    (dss_cons (ds_expr (de_fn G_check_fold hr (Nat.le_refl _) (by rfl) (da_cons (de_var 0) (da_cons (de_var 1) da_nil))))
      (dss_one (ds_ret (de_fn G_fewest_sum hr (Nat.le_refl _) (by rfl) (da_cons (de_fn G_all_lacks hr (Nat.le_refl _) (by rfl) (da_cons (de_var 0) (da_cons (de_var 1) da_nil))) (da_cons (de_var 1) da_nil))))))) (fun xs Q h => ?_)
  · obtain ⟨ps, ts, k, rfl, _⟩ := h; rfl
  · obtain ⟨ps, ts, k, rfl, g, h1, h9, ht, k2, k9, q⟩ := h
    walk_at "dred7"
    refine ⟨ps, ts, k, rfl, k2, k9, ps, ts, k, rfl, g, h1, h9, ht, ps, lackT ps ts k, k, rfl, asc_nodup g.asc, h9, fun l => ?_, if_pos (.inl rfl), q⟩
    have := cut_nn g.pos l
    unfold lackT
    split
    · omega
    · split <;> omega
def spHalfUp : DSp := fun xs Q => ∃ k : Int, xs = [.int k] ∧ Q (.int ((k + 1) / 2))
theorem ok_half_up {f : Addr} {fd : FuncData} {k : Nat} (F : Fun K "half_up" "half_up" s_half_up f fd)  : FnOk P w K mg base CX0 (k + 1) f fd ["many"] (spD spHalfUp) := by
  refine fnD_ok F sc_half_up (fun xs Q h => ?_) (fun dc cdv A outer s0 H E hr =>
    (dss_one (ds_ret (de_op opd_fdiv (de_op opd_add (de_var 0) de_int) de_int)))) (fun xs Q h => ?_)
  · obtain ⟨k, rfl, _⟩ := h; rfl
  · obtain ⟨k, rfl, q⟩ := h
    walk_at "dred7"
    exact ⟨⟨by decide, by decide⟩, q⟩
def spFewTies (C : Addr) : DSp := fun xs Q => ∃ ps ts k, xs = [madeD C ps ts, .int k] ∧ MG ps ts ∧ 1 ≤ ps.length ∧ ps.length ≤ 9 ∧ ts.length ≤ 900 ∧ 2 ≤ k ∧ k ≤ 9 ∧ ∀ m, CntOk ps (lackT ps ts k) m → Q (.int ((sumM m ps + 1) / 2))
theorem ok_fewest_ties {f : Addr} {fd : FuncData} {k : Nat} (F : Fun K "fewest_ties" "fewest_ties" s_fewest_ties f fd) (G_half_up : DFn P w K mg base k "half_up" [] spHalfUp) (G_fewest_ends : DFn P w K mg base k "fewest_ends" [] (spFewEnds C)) : FnOk P w K mg base CX0 (k + 1) f fd ["net", "fold"] (spD (spFewTies C)) := by
  refine fnD_ok F sc_fewest_ties (fun xs Q h => ?_) (fun dc cdv A outer s0 H E hr =>
    (dss_one (ds_ret (de_fn G_half_up hr (Nat.le_refl _) (by rfl) (da_cons (de_fn G_fewest_ends hr (Nat.le_refl _) (by rfl) (da_cons (de_var 0) (da_cons (de_var 1) da_nil))) da_nil))))) (fun xs Q h => ?_)
  · obtain ⟨ps, ts, k, rfl, _⟩ := h; rfl
  · obtain ⟨ps, ts, k, rfl, g, h1, h9, ht, k2, k9, q⟩ := h
    walk_at "dred7"
    exact ⟨ps, ts, k, rfl, g, h1, h9, ht, k2, k9, fun m hm => ⟨_, rfl, q m hm⟩⟩
end O61
end
/-! ### k61: the data and the theorem -/
namespace O61
open O8 O12 O30 Few
theorem W_wsum (c : Str × Str → Bool) : ∀ us : Ties, Mader.W us (fun e => Mader.i1 (c e)) = wsum c us
  | [] => rfl
  | e :: r => by
    rw [Mader.W_cons, wsum_cons, W_wsum c r]
    unfold Mader.i1
    cases c e.1 with
    | true => rw [if_pos rfl, if_pos rfl, Int.one_mul]
    | false => rw [if_neg Bool.false_ne_true, if_neg Bool.false_ne_true, Int.zero_mul]
theorem d_wsum (us : Ties) (X : Str → Bool) : Mader.d us X = wsum (fun e => X e.1 != X e.2) us := W_wsum (fun e => X e.1 != X e.2) us
theorem d_cutG {n : Int} {ps : List Str} {ts : Ties} (g : GoodB n ps ts) (X : Str → Bool) : Mader.d ts X = cutT ts (ps.filter X) := by
  rw [d_wsum]
  show _ = wsum (parts (ps.filter X)) ts
  refine wsum_congr fun e he => ?_
  obtain ⟨a, b, _⟩ := g.keys e he
  have k : ∀ z ∈ ps, X z = decide (z ∈ ps.filter X) := fun z hz => by
    cases h : X z with
    | true => exact (decide_eq_true (List.mem_filter.mpr ⟨hz, h⟩)).symm
    | false => exact (decide_eq_false fun q => by have := (List.mem_filter.mp q).2; rw [h] at this; cases this).symm
  unfold parts
  rw [← k _ a, ← k _ b]
theorem mS_filter {m : Str → Int} {X : Str → Bool} : ∀ {ps : List Str}, mS ps m X = sumM m (ps.filter X)
  | [] => rfl
  | p :: r => by
    have e1 : ∀ q, sumM m (p :: q) = m p + sumM m q := fun q => by unfold sumM; rw [List.map_cons, List.sum_cons]
    rw [mS_cons, mS_filter]
    unfold Mader.i1
    cases h : X p with
    | true => rw [List.filter_cons_of_pos h, e1]; simp
    | false => rw [List.filter_cons_of_neg (by rw [h]; exact Bool.false_ne_true)]; simp
theorem mS_all {m : Str → Int} {ps : List Str} : mS ps m tt = sumM m ps := by
  rw [mS_filter]
  congr 1
  exact List.filter_eq_self.mpr fun _ _ => rfl
theorem filter_in : ∀ {ps l : List Str}, ps.Nodup → l.Sublist ps → ps.filter (fun y => decide (y ∈ l)) = l
  | [], l, _, h => by rw [List.sublist_nil.mp h]; rfl
  | p :: r, l, nd, h => by
    obtain ⟨n1, n2⟩ := List.nodup_cons.mp nd
    cases h with
    | cons _ h =>
      have np : p ∉ l := fun z => n1 (h.subset z)
      rw [List.filter_cons_of_neg (by simpa using np)]
      exact filter_in n2 h
    | @cons_cons l' _ _ h =>
      rw [List.filter_cons_of_pos (by simp)]
      congr 1
      have : ∀ y ∈ r, decide (y ∈ p :: l') = decide (y ∈ l') := fun y hy => decide_eq_decide.mpr ⟨fun z => by
        rcases List.mem_cons.mp z with z | z
        · exact absurd (by rw [← z]; exact hy) n1
        · exact z, fun z => List.mem_cons_of_mem _ z⟩
      rw [List.filter_congr this]
      exact filter_in n2 h
theorem prp_lot {ps : List Str} {X : Str → Bool} (h : prp ps X) : ps.filter X ≠ [] ∧ ps.filter X ≠ ps := by
  obtain ⟨⟨x, hx, ex⟩, y, hy, ey⟩ := h
  refine ⟨fun z => ?_, fun z => ?_⟩
  · have : x ∈ ps.filter X := List.mem_filter.mpr ⟨hx, ex⟩
    rw [z] at this
    cases this
  · rw [← z] at hy
    have := (List.mem_filter.mp hy).2
    rw [ey] at this
    cases this
theorem lot_prp {ps l : List Str} (nd : ps.Nodup) (hs : l.Sublist ps) (h0 : l ≠ []) (h1 : l ≠ ps) : prp ps fun y => decide (y ∈ l) := by
  refine ⟨?_, Classical.byContradiction fun z => h1 ?_⟩
  · obtain ⟨x, hx⟩ := List.exists_mem_of_ne_nil l h0
    exact ⟨x, hs.subset hx, decide_eq_true hx⟩
  · rw [← filter_in nd hs]
    exact List.filter_eq_self.mpr fun y hy => Classical.byContradiction fun w => z ⟨y, hy, Bool.eq_false_iff.mpr w⟩
theorem cnt_feas {n : Int} {ps : List Str} {ts : Ties} {k : Int} {m : Str → Int} (nd : ps.Nodup) (g : GoodB n ps ts) (h : CntOk ps (lackT ps ts k) m) : feas ps ts k m ∧ Few.lst ps ts k m := by
  refine ⟨⟨h.nn, fun X hX => ?_⟩, fun v hv h0 => ?_⟩
  · obtain ⟨a, b⟩ := prp_lot hX
    have q := h.ge (ps.filter X) (mem_allS.mpr List.filter_sublist)
    unfold lackT at q
    rw [if_neg (fun z => by rcases z with z | z; exact a z; exact b z)] at q
    rw [d_cutG g, mS_filter]
    split at q <;> omega
  · obtain ⟨l, hl, vl, e⟩ := h.tight v hv
    have sub := mem_allS.mp hl
    have pos : 0 < sumM m l := by
      have nn : ∀ w ∈ l, 0 ≤ m w := fun w hw => h.nn w (sub.subset hw)
      clear e hl sub
      induction l with
      | nil => cases vl
      | cons p r ih =>
        have e1 : sumM m (p :: r) = m p + sumM m r := by unfold sumM; rw [List.map_cons, List.sum_cons]
        have z : ∀ {r : List Str}, (∀ w ∈ r, 0 ≤ m w) → 0 ≤ sumM m r := fun {r} h => by
          induction r with
          | nil => exact Int.le_refl _
          | cons q r ihr =>
            have e2 : sumM m (q :: r) = m q + sumM m r := by unfold sumM; rw [List.map_cons, List.sum_cons]
            have := ihr fun w hw => h w (List.mem_cons_of_mem _ hw)
            have := h q List.mem_cons_self
            omega
        have nr := z fun w hw => nn w (List.mem_cons_of_mem _ hw)
        have np := nn p List.mem_cons_self
        rcases List.mem_cons.mp vl with rfl | vl
        · omega
        · have := ih vl fun w hw => nn w (List.mem_cons_of_mem _ hw)
          omega
    rw [e] at pos
    unfold lackT at pos e
    by_cases c : l = [] ∨ l = ps
    · rw [if_pos c] at pos
      omega
    · rw [if_neg c] at pos e
      refine ⟨fun y => decide (y ∈ l), decide_eq_true vl, lot_prp nd sub (fun z => c (.inl z)) fun z => c (.inr z), ?_⟩
      rw [d_cutG g, mS_filter, filter_in nd sub]
      split at e
      · omega
      · rename_i w
        rw [if_neg w] at pos
        omega
theorem cnt_least {n : Int} {ps : List Str} {ts : Ties} {k : Int} {m f : Str → Int} (nd : ps.Nodup) (g : GoodB n ps ts) (h : CntOk ps (lackT ps ts k) m) (hf : feas ps ts k f) : sumM m ps ≤ mS ps f tt := by
  obtain ⟨a, b⟩ := cnt_feas nd g h
  rw [← mS_all]
  exact least g.pos a b hf
theorem lack_same {ps : List Str} {us ts : Ties} {k : Int} (h : us.Perm ts) : lackT ps us k = lackT ps ts k := funext fun l => by
  unfold lackT
  rw [show cutT us l = cutT ts l from wsum_perm (parts l) h]
/-! #### ties put in one by one -/
def foldB (ps : List Str) (ts : Ties) (k : Int) : Bool := decide (((lotsS ps).filter fun l => decide (cutT ts l < k)) = [])
def canB (ps : List Str) (k : Int) : Nat → Ties → Bool
  | 0, ts => foldB ps ts k
  | n + 1, ts => foldB ps ts k || (pairsOf ps).any fun p => canB ps k n (withT ts p 1)
theorem with_put {ts : Ties} {p : Str × Str} (pos : ∀ e ∈ ts, 1 ≤ e.2) : withT ts p 1 = putT ts p (getT ts p + 1) := by
  unfold withT
  have := getT_nn pos p
  rw [if_neg (by omega)]
theorem good_with {n : Int} {ps : List Str} {ts : Ties} {p : Str × Str} (g : GoodB n ps ts) (hp : p ∈ pairsOf ps) : GoodB (n + 1) ps (withT ts p 1) := by
  rw [with_put g.pos]
  exact g.put (mem_pairsOf'.mp hp) (by decide)
theorem plus_with {n : Int} {ps : List Str} {ts : Ties} {p : Str × Str} (g : GoodB n ps ts) : plus ts (withT ts p 1) p.1 p.2 := fun X => by
  rw [d_wsum, d_wsum, with_put g.pos, wsum_put _ _ _ g.nodup]
  unfold Mader.i1
  split <;> omega
theorem lot_len {ps l : List Str} (s : l.Sublist ps) (a : l ≠ []) (b : l ≠ ps) : l.Sublist ps ∧ 0 < l.length ∧ l.length < ps.length := by
  refine ⟨s, List.length_pos_iff.mpr a, ?_⟩
  have := s.length_le
  have : l.length ≠ ps.length := fun z => b (s.eq_of_length z)
  omega
theorem fold_iff {n : Int} {ps : List Str} {ts : Ties} {k : Int} (nd : ps.Nodup) (g : GoodB n ps ts) : foldB ps ts k = true ↔ fold ps ts k := by
  unfold foldB
  rw [decide_eq_true_iff, List.filter_eq_nil_iff]
  constructor
  · intro h X hX
    obtain ⟨a, b⟩ := prp_lot hX
    have := h (ps.filter X) (mem_lots.mpr (lot_len List.filter_sublist a b))
    rw [decide_eq_true_iff] at this
    rw [d_cutG g]
    omega
  · intro h l hl z
    obtain ⟨s, l0, l1⟩ := mem_lots.mp hl
    have a : l ≠ [] := fun z => by rw [z] at l0; exact absurd l0 (by decide)
    have b : l ≠ ps := fun z => by rw [z] at l1; omega
    have := h _ (lot_prp nd s a b)
    rw [d_cutG g, filter_in nd s] at this
    have := of_decide_eq_true z
    omega
theorem can_feas {ps : List Str} {k : Int} (nd : ps.Nodup) : ∀ (j : Nat) {n : Int} {ts : Ties}, GoodB n ps ts → canB ps k j ts = true → ∃ f, feas ps ts k f ∧ mS ps f tt ≤ 2 * (j : Int) := by
  intro j
  induction j with
  | zero => exact fun g h => ⟨_, feas_zero ((fold_iff nd g).mp h), by rw [mS_zero]; decide⟩
  | succ j ih =>
    intro n ts g h
    rw [canB, Bool.or_eq_true] at h
    rcases h with h | h
    · exact ⟨_, feas_zero ((fold_iff nd g).mp h), by rw [mS_zero]; omega⟩
    · obtain ⟨p, hp, hc⟩ := List.any_eq_true.mp h
      obtain ⟨a, b, _⟩ := mem_pairsOf'.mp hp
      obtain ⟨f, hf, hs⟩ := ih (good_with g hp) hc
      exact ⟨_, feas_less nd a b (plus_with g) hf, by rw [sum_less nd a b]; omega⟩
theorem can_ge {n : Int} {ps : List Str} {ts : Ties} {k : Int} {m : Str → Int} (nd : ps.Nodup) (g : GoodB n ps ts) (h : CntOk ps (lackT ps ts k) m) {j : Nat} (hc : canB ps k j ts = true) : sumM m ps ≤ 2 * (j : Int) := by
  obtain ⟨f, hf, hs⟩ := can_feas nd j g hc
  exact Int.le_trans (cnt_least nd g h hf) hs
theorem tie_of {ps : List Str} {a b : Str} (ha : a ∈ ps) (hb : b ∈ ps) (ne : a ≠ b) : ordP a b ∈ pairsOf ps := mem_pairsOf'.mpr (ordP_ok ha hb ne)
theorem plus_ord {n : Int} {ps : List Str} {ts : Ties} (g : GoodB n ps ts) (a b : Str) : plus ts (withT ts (ordP a b) 1) a b := fun X => by
  have := plus_with (p := ordP a b) g X
  rw [this]
  unfold ordP
  split
  · rfl
  · show _ + Mader.i1 (X b != X a) = _
    cases X b <;> cases X a <;> rfl
theorem can_two {ps : List Str} {k : Int} (nd : ps.Nodup) (k2 : 2 ≤ k) : ∀ (j : Nat), j ≤ 2 → ∀ {n : Int} {ts : Ties} {f : Str → Int}, GoodB n ps ts → feas ps ts k f → mS ps f tt ≤ 2 * (j : Int) → canB ps k j ts = true
  | 0, _, n, ts, f, g, hf, hs => (fold_iff nd g).mpr (fold_zero hf (by simpa using hs))
  | 1, _, n, ts, f, g, hf, hs => by
    rw [canB, Bool.or_eq_true]
    rcases two_ties nd hf (by simpa using hs) with h | ⟨a, ha, b, hb, ne, h⟩
    · exact .inl ((fold_iff nd g).mpr h)
    · refine .inr (List.any_eq_true.mpr ⟨ordP a b, tie_of ha hb ne, ?_⟩)
      exact (fold_iff nd (good_with g (tie_of ha hb ne))).mpr (h _ (plus_ord g a b))
  | 2, _, n, ts, f, g, hf, hs => by
    rw [canB, Bool.or_eq_true]
    rcases four_ends g.pos k2 nd hf (by simpa using hs) with h | ⟨a, ha, b, hb, ne, h⟩
    · exact .inl ((fold_iff nd g).mpr h)
    · refine .inr (List.any_eq_true.mpr ⟨ordP a b, tie_of ha hb ne, ?_⟩)
      obtain ⟨f2, h1, h2⟩ := h _ (plus_ord g a b)
      exact can_two nd k2 1 (by decide) (good_with g (tie_of ha hb ne)) h1 (by simpa using h2)
theorem one_more {n : Int} {ps : List Str} {ts : Ties} {k : Int} {m m' : Str → Int} {p : Str × Str} (nd : ps.Nodup) (g : GoodB n ps ts) (hp : p ∈ pairsOf ps) (h : CntOk ps (lackT ps ts k) m) (h' : CntOk ps (lackT ps (withT ts p 1) k) m') : sumM m' ps ≤ sumM m ps ∧ sumM m ps ≤ sumM m' ps + 2 := by
  have g' := good_with g hp
  obtain ⟨a, b, _⟩ := mem_pairsOf'.mp hp
  obtain ⟨f, _⟩ := cnt_feas nd g h
  obtain ⟨f', _⟩ := cnt_feas nd g' h'
  refine ⟨?_, ?_⟩
  · have := cnt_least nd g' h' (feas_more (plus_with g) f)
    rw [mS_all] at this
    exact this
  · have := cnt_least nd g h (feas_less nd a b (plus_with g) f')
    rw [sum_less nd a b, mS_all] at this
    exact this
end O61
/-! ### law k61: its own defs -/
abbrev s__law_is_fold : Stmt := topS 59
theorem sc__law_is_fold : FnScope ["net", "fold", "lot"] ["net", "fold"] (defScope s__law_is_fold) := ⟨rfl, rfl, rfl, by decide +kernel, rfl, by decide +kernel, by decide +kernel⟩
abbrev s__law_small_net : Stmt := topS 60
theorem sc__law_small_net : FnScope ["dice", "net", "places", "ties", "pair"] ["dice"] (defScope s__law_small_net) := ⟨rfl, rfl, rfl, by decide +kernel, rfl, by decide +kernel, by decide +kernel⟩
abbrev s__law_can : Stmt := topS 61
theorem sc__law_can : FnScope ["net", "fold", "left", "pair"] ["net", "fold", "left"] (defScope s__law_can) := ⟨rfl, rfl, rfl, by decide +kernel, rfl, by decide +kernel, by decide +kernel⟩
abbrev s__law_right : Stmt := topS 62
theorem sc__law_right : FnScope ["dice", "fewest", "pair", "net", "fold", "after"] ["dice"] (defScope s__law_right) := ⟨rfl, rfl, rfl, by decide +kernel, rfl, by decide +kernel, by decide +kernel⟩
theorem perm_map {α β : Type} {f : α → β} : ∀ {vs us : List β}, vs.Perm us → ∀ L : List α, us = L.map f → ∃ M : List α, M.Perm L ∧ vs = M.map f := by
  intro vs us h
  induction h with
  | nil =>
    intro L e
    cases L with
    | nil => exact ⟨[], .nil, rfl⟩
    | cons p r => cases e
  | cons x _ ih =>
    intro L e
    cases L with
    | nil => cases e
    | cons p r =>
      rw [List.map_cons] at e
      injection e with e1 e2
      obtain ⟨M, h1, h2⟩ := ih r e2
      exact ⟨p :: M, h1.cons p, by rw [List.map_cons, ← h2, e1]⟩
  | swap x y l =>
    intro L e
    match L, e with
    | p :: q :: r, e =>
      rw [List.map_cons, List.map_cons] at e
      injection e with e1 e2
      injection e2 with e2 e3
      exact ⟨q :: p :: r, .swap .., by rw [List.map_cons, List.map_cons, e1, e2, e3]⟩
  | trans _ _ ih1 ih2 =>
    intro L e
    obtain ⟨M1, h1, e1⟩ := ih2 L e
    obtain ⟨M2, h2, e2⟩ := ih1 M1 e1
    exact ⟨M2, h2.trans h1, e2⟩
section
variable {P : Program} {w : World} {K : PySem.W.Frag} {mg : Str → Option Value} {base : Heap} {C : Addr}
namespace O12
def spSomeD : DSp := fun xs Q => ∃ (ps : List Str) (m : Int), xs = [.cell, .lst (ps.map D.str), .int m] ∧ 0 ≤ m ∧ m < 1000000 ∧ ps.length < 1000000 ∧ ∀ (ys rest : List Str), (ys ++ rest).Perm ps → ys.length = min m.toNat ps.length → Q (.lst (ys.map D.str))
theorem some_imp : ∀ vs H Q E, spD spSomeD vs H Q E → spSome K vs H Q E := fun vs H Q E ⟨dc, F, xs, p, r, ps, m, e, h0, h1, h2, q⟩ => by
  subst e
  cases r with
  | cons a b =>
  cases b with
  | cons b c =>
  cases c with
  | cons c e =>
  cases e
  cases c
  cases a with
  | @cell d e =>
  cases b with
  | @lst a _ ws ef rr =>
  have hw := Reps.strs_eq rr
  subst hw
  refine ⟨d, a, m, ps.map V.str, rfl, (p.dice d e).1, .of (p.sub _ _ ef), h0, h1, by rw [List.length_map]; exact h2, fun D ys rest H' pm hl nD hD s => ?_⟩
  obtain ⟨M, pM, eM⟩ := perm_map pm ps rfl
  have e1 : ys = (M.take ys.length).map V.str := by
    rw [List.map_take, ← eM, List.take_left']
    rfl
  have e0 := Ext.sd p e s
  have ec := e0.close nD hD (show SubO H' D (.lst ys) from hD) (p.nd nD) (p.nf nD)
  refine q (M.take ys.length) (M.drop ys.length) (by rw [List.take_append_drop]; exact pM) ?_ _ _ _ ec ?_
  · rw [List.length_take, pM.length_eq]
    rw [List.length_map] at hl
    omega
  · rw [e1]
    rw [← e1]
    refine .lst (vs := ys) upd_same ?_
    have := Reps.strs (dc := dc) (F := upd F D (.lst ys)) (M.take ys.length)
    rw [← e1] at this
    exact this
end O12
end
theorem reps_perm {dc : Option Addr} {F : Hp} {vs us : List V} (h : vs.Perm us) : ∀ xs : List D, Reps dc F xs us → ∃ ys : List D, ys.Perm xs ∧ Reps dc F ys vs := by
  induction h with
  | nil => exact fun xs r => ⟨xs, .refl _, r⟩
  | cons x _ ih =>
    intro xs r
    cases r with
    | cons a b =>
      obtain ⟨ys, p, q⟩ := ih _ b
      exact ⟨_ :: ys, p.cons _, .cons a q⟩
  | swap x y l =>
    intro xs r
    cases r with
    | cons a b =>
      cases b with
      | cons b c => exact ⟨_, .swap .., .cons b (.cons a c)⟩
  | trans _ _ ih1 ih2 =>
    intro xs r
    obtain ⟨ys, p, q⟩ := ih2 xs r
    obtain ⟨zs, p2, q2⟩ := ih1 ys q
    exact ⟨zs, p2.trans p, q2⟩
def spSomeDD : DSp := fun xs Q => ∃ (ds : List D) (m : Int), xs = [.cell, .lst ds, .int m] ∧ 0 ≤ m ∧ m < 1000000 ∧ ds.length < 1000000 ∧ ∀ ys rest : List D, (ys ++ rest).Perm ds → Q (.lst ys)
theorem someD_imp {K : PySem.W.Frag} : ∀ vs H Q E, spD spSomeDD vs H Q E → spSome K vs H Q E := fun vs H Q E ⟨dc, F, xs, p, r, ds, m, e, h0, h1, h2, q⟩ => by
  subst e
  cases r with
  | cons a b =>
  cases b with
  | cons b c =>
  cases c with
  | cons c e =>
  cases e
  cases c
  cases a with
  | @cell d e =>
  cases b with
  | @lst a _ ws ef rr =>
  refine ⟨d, a, m, ws, rfl, (p.dice d e).1, .of (p.sub _ _ ef), h0, h1, by rw [← rr.length]; exact h2, fun D ys rest H' pm hl nD hD s => ?_⟩
  obtain ⟨zs, pz, rz⟩ := reps_perm pm ds rr
  have e0 := Ext.sd p e s
  have ec := e0.close nD hD (show SubO H' D (.lst ys) from hD) (p.nd nD) (p.nf nD)
  have rt := rz.take ys.length
  rw [List.take_left' rfl] at rt
  exact q (zs.take ys.length) (zs.drop ys.length) (by rw [List.take_append_drop]; exact pz) _ _ _ ec (.lst (vs := ys) upd_same (ec.reps rt))
section
variable {P : Program} {w : World} {K : PySem.W.Frag} {mg : Str → Option Value} {base : Heap} {C : Addr}
namespace O61
open O8 O12 O30
def spLawIsFold : DSp := fun xs Q => ∃ (ps : List Str) (ts : Ties) (k : Int), xs = [netD ps ts, .int k] ∧ ps.length ≤ 9 ∧ (∀ x ∈ ps, PyData.strOk x = true) ∧ ts.length ≤ 1000 ∧ (ts.map (·.1)).Nodup ∧ Q (.bl (foldB ps ts k))
theorem ok__law_is_fold {f : Addr} {fd : FuncData} {k : Nat} (F : Fun K "_law_is_fold" "_law_is_fold" s__law_is_fold f fd) (G__law_lots : DFn P w K mg base k "_law_lots" [] spLawLots) (G__law_cut : DFn P w K mg base k "_law_cut" [] spLawCut) : FnOk P w K mg base CX0 (k + 1) f fd ["net", "fold"] (spD spLawIsFold) := by
  refine fnD_ok F sc__law_is_fold (fun xs Q h => ?_) (fun dc cdv A outer s0 H E hr =>
    (dss_one (ds_ret (de_cmp (opd_eq (hr.units)) (de_lc (own := [("lot", 2)]) rfl sc__law_is_fold.nd (di_seq (de_fn G__law_lots hr (Nat.le_refl _) (by rfl) (da_cons (de_var 0) da_nil))) (blkOk_by (N := ["net", "fold", "lot"]) (sc := defScope s__law_is_fold) (by decide +kernel)) (fun _ _ _ _ _ => (dg_name (i := 2) sc__law_is_fold.nd rfl (Or.inl rfl))) (fun _ _ _ _ _ => (dts_one (dc_cmp opd_lt (de_fn G__law_cut hr (Nat.le_refl _) (by rfl) (da_cons (de_var 0) (da_cons (de_var 2) da_nil))) (de_var 1) (nomark _)))) (fun _ _ _ _ _ => (de_var 2)) (by decide)) (de_lst da_nil) (nomark _))))) (fun xs Q h => ?_)
  · obtain ⟨ps, ts, k, rfl, _⟩ := h; rfl
  · obtain ⟨ps, ts, k, rfl, h9, so, ht, nd, q⟩ := h
    walk_at "dred7"
    refine ⟨ps, ts, rfl, h9, ?_⟩
    dsimp only
    rw [asSeq_lst]
    have sm := allS_small h9
    have ll : (lotsS ps).length ≤ 1000 := by
      unfold lotsS
      rw [List.length_mergeSort]
      exact Nat.le_trans (List.length_filter_le _ _) sm
    refine ⟨by rw [List.length_map]; exact Nat.le_of_lt (small1000 ll), lcL_filter (g := lotD) (c := fun l => decide (cutT ts l < k)) (fun l hl K' hK => ?_) ?_⟩
    · walk_at "dred7"
      refine ⟨ps, ts, l, rfl, ht, nd, ?_⟩
      walk_at "dred7"
      exact hK
    refine ⟨Nat.zero_le _, ?_⟩
    show dPy false _ (.lst (([] : List (List Str)).map lotD)) Q
    refine cmp_lotsL (fun l hl x hx => so x ((mem_lots.mp (List.mem_filter.mp hl).1).1.subset hx)) (fun _ h => nomatch h) ?_
    rw [Bool.false_xor]
    exact q
structure NetS (ps : List Str) (ts : Ties) : Prop where
  asc : ps.Pairwise fun a b => ltS a b = true
  words : ∀ p ∈ ps, wordS p = true ∧ p.length ≤ 8 ∧ ∀ c ∈ p.cps.toList, c < 128
  two : 2 ≤ ps.length
  six : ps.length ≤ 6
  good : GoodB 22 ps ts
def spSmall : DSp := fun xs Q => xs = [.cell] ∧ ∀ ps ts, NetS ps ts → Q (netD ps ts)
theorem ok__law_small_net {f : Addr} {fd : FuncData} {k : Nat} (F : Fun K "_law_small_net" "_law_small_net" s__law_small_net f fd) (m_sorted : mg "sorted" = none) (m_dict : mg "dict" = none) (G__law_net : DFn P w K mg base k "_law_net" [] spNetD) (G__law_some : DFn P w K mg base k "_law_some" [] spSomeD) (G__law_roll : DFn P w K mg base k "_law_roll" [] spRollD) : FnOk P w K mg base CX0 (k + 1) f fd ["dice"] (spD spSmall) := by
  refine fnD_ok F sc__law_small_net (fun xs Q h => ?_) (fun dc cdv A outer s0 H E hr =>
    (dss_cons (ds_set (i := 1) sc__law_small_net.nd rfl (by first | exact Or.inl rfl | exact Or.inr rfl) (de_fn G__law_net hr (Nat.le_refl _) (by rfl) (da_cons (de_var 0) da_nil)))
      (dss_cons (ds_set (i := 2) sc__law_small_net.nd rfl (by first | exact Or.inl rfl | exact Or.inr rfl) (de_fn G__law_some hr (Nat.le_refl _) (by rfl) (da_cons (de_var 0) (da_cons (de_sub (hu_of hr) (de_var 1) de_str) (da_cons (de_op opd_add de_int (de_fn G__law_roll hr (Nat.le_refl _) (by rfl) (da_cons (de_var 0) (da_cons de_int da_nil)))) da_nil)))))
      (dss_cons (ds_set (i := 3) sc__law_small_net.nd rfl (by first | exact Or.inl rfl | exact Or.inr rfl) (de_callTy (cd_dictT rfl (room65 hr)) (by rfl) m_dict (by decide +kernel) (da_cons (de_lcK (own := [("pair", 4)]) rfl sc__law_small_net.nd (dp_key (hu_of hr) (dp_var 1)) (blkOk_by (N := ["dice", "net", "places", "ties", "pair"]) (sc := defScope s__law_small_net) (by decide +kernel)) (fun _ _ _ _ _ => (dg_name (i := 4) sc__law_small_net.nd rfl (Or.inl rfl))) (fun _ _ _ _ _ => (dts_one ((dw_and (dc_cmp (opd_inA (hu_of hr)) (de_sub (hu_of hr) (de_var 4) de_int) (de_var 2) (by rfl)) (dw_and1 (dc_cmp (opd_inA (hu_of hr)) (de_sub (hu_of hr) (de_var 4) de_int) (de_var 2) (by rfl))))).toC)) (fun _ _ _ _ _ => (de_tup (da_cons (de_var 4) (da_cons (de_sub (hu_of hr) (de_sub (hu_of hr) (de_var 1) de_str) (de_var 4)) da_nil)))) (by decide)) da_nil)))
      (dss_one (ds_ret (de_disp2 (de_callB cd_sortedS (by rfl) m_sorted (by decide +kernel) (da_cons (de_var 2) da_nil)) (de_var 3) (by rfl)))))))) (fun xs Q h => ?_)
  · obtain ⟨rfl, _⟩ := h; rfl
  · obtain ⟨rfl, q⟩ := h
    walk_at "dred7"
    refine ⟨rfl, fun ps ts gN => ?_⟩
    have h6 := gN.six
    refine ⟨4, rfl, by decide, by decide, fun r r0 r4 => ?_⟩
    walk_at "dred7"
    refine ⟨ps, 2 + r, rfl, by omega, by omega, by omega, fun ys rest pm hl => ?_⟩
    walk_at "dred7"
    rw [dKey_ties (ps := ps) (ts := ts) rfl]
    show (ts.map fun e => kP e.1).length ≤ sizeLine ∧ _
    have tl : ts.length ≤ 900 := by
      have := goodB_len gN.b (by decide)
      omega
    refine ⟨by rw [List.length_map]; exact Nat.le_of_lt (small1000 (by omega)), ?_⟩
    rw [keysD_ties]
    refine lcL_filter (g := fun e => D.tup [pairD e.1, .int e.2]) (c := fun e => decide (e.1.1 ∈ ys) && decide (e.1.2 ∈ ys)) (fun e he K' hK => ?_) ?_
    · walk_at "dred7"
      rw [look_at gN.nodup he, onSome_some]
      by_cases c1 : e.1.1 ∈ ys
      · rw [decide_eq_true c1] at hK ⊢
        by_cases c2 : e.1.2 ∈ ys
        · rw [decide_eq_true c2] at hK ⊢
          exact ⟨by decide, hK⟩
        · rw [decide_eq_false c2] at hK ⊢
          exact hK
      · rw [decide_eq_false c1] at hK ⊢
        exact hK
    have ndp := asc_nodup gN.asc
    have ndy : ys.Nodup := (pm.nodup_iff.mpr ndp).sublist (List.sublist_append_left ys rest)
    have ly : ys.length ≤ 6 := by
      have := pm.length_eq
      rw [List.length_append] at this
      omega
    refine ⟨(ts.filter fun e => decide (e.1.1 ∈ ys) && decide (e.1.2 ∈ ys)).map fun e => (e.1, D.int e.2), by rw [List.map_map]; rfl, ?_, ?_⟩
    · rw [List.map_map]
      exact gN.nodup.sublist (List.filter_sublist.map _)
    refine asStrs.of ⟨by omega, fun ms pms srt => ?_⟩
    have e2 : D.dT (((ts.filter fun e => decide (e.1.1 ∈ ys) && decide (e.1.2 ∈ ys)).map fun e => (e.1, D.int e.2)).map fun p => kP p.1) (((ts.filter fun e => decide (e.1.1 ∈ ys) && decide (e.1.2 ∈ ys)).map fun e => (e.1, D.int e.2)).map fun x => x.2) = tiesD (ts.filter fun e => decide (e.1.1 ∈ ys) && decide (e.1.2 ∈ ys)) := by
      unfold tiesD
      rw [List.map_map, List.map_map]
      rfl
    rw [e2]
    have lm := pms.length_eq
    have h2 := gN.two
    refine q ms _ ⟨sorted_asc srt (pms.nodup_iff.mpr ndy), fun p hp => gN.words p (pm.mem_iff.mp (List.mem_append_left _ (pms.mem_iff.mp hp))), by omega, by omega, goodB_filter _ gN.b fun e he c => ?_⟩
    rw [Bool.and_eq_true] at c
    exact ⟨pms.mem_iff.mpr (of_decide_eq_true c.1), pms.mem_iff.mpr (of_decide_eq_true c.2)⟩
structure CanOk (ps : List Str) (ts : Ties) (j : Nat) : Prop where
  h9 : ps.length ≤ 9
  str : ∀ x ∈ ps, PyData.strOk x = true
  len : ts.length + j ≤ 100
  nd : (ts.map (·.1)).Nodup
def spCan (N : Nat) : DSp := fun xs Q => ∃ (ps : List Str) (ts : Ties) (k : Int) (j : Nat), xs = [netD ps ts, .int k, .int (j : Nat)] ∧ j ≤ N ∧ CanOk ps ts j ∧ Q (.bl (canB ps k j ts))
theorem ok__law_can {f : Addr} {fd : FuncData} {k : Nat} (F : Fun K "_law_can" "_law_can" s__law_can f fd) {spR : DSp} {N : Nat} (hR : ∀ ps ts k j Q, j < N → CanOk ps ts j → Q (.bl (canB ps k j ts)) → spR [netD ps ts, .int k, .int (j : Nat)] Q) (G__law_is_fold : DFn P w K mg base k "_law_is_fold" [] spLawIsFold) (G__law_pairs : DFn P w K mg base k "_law_pairs" [] spLawPairs) (G__law_with : DFn P w K mg base k "_law_with" [] spWithD) (G__law_can : DFn P w K mg base k "_law_can" [] spR) : FnOk P w K mg base CX0 (k + 1) f fd ["net", "fold", "left"] (spD (spCan N)) := by
  refine fnD_ok F sc__law_can (fun xs Q h => ?_) (fun dc cdv A outer s0 H E hr =>
    (dss_cons (ds_if (dc_val (de_fn G__law_is_fold hr (Nat.le_refl _) (by rfl) (da_cons (de_var 0) (da_cons (de_var 1) da_nil)))) (dss_one (ds_ret de_bl)) dss_nil)
      (dss_cons (ds_for PassesOwn.never rfl (di_seq (de_if (dc_cmp opd_gt (de_var 2) de_int (nomark _)) (de_fn G__law_pairs hr (Nat.le_refl _) (by rfl) (da_cons (de_sub (hu_of hr) (de_var 0) de_str) da_nil)) (de_lst da_nil))) (dg_name (i := 3) sc__law_can.nd rfl (by first | exact Or.inl rfl | exact Or.inr rfl)) (dss_one (ds_if (dc_val (de_fn G__law_can hr (Nat.le_refl _) (by rfl) (da_cons (de_fn G__law_with hr (Nat.le_refl _) (by rfl) (da_cons (de_var 0) (da_cons (de_var 3) (da_cons de_int da_nil)))) (da_cons (de_var 1) (da_cons (de_op opd_sub (de_var 2) de_int) da_nil))))) (dss_one (ds_ret de_bl)) dss_nil)))
      (dss_one (ds_ret de_bl))))) (fun xs Q h => ?_)
  · obtain ⟨ps, ts, k, j, rfl, _⟩ := h; rfl
  · obtain ⟨ps, ts, k, j, rfl, hj, ok, q⟩ := h
    have lt := ok.len
    walk_at "dred7"
    refine ⟨ps, ts, k, rfl, ok.h9, ok.str, by omega, ok.nd, ?_⟩
    dsimp only
    rw [asBl_bl]
    cases hb : foldB ps ts k with
    | true =>
      refine iteT ?_
      cases j with
      | zero => rw [canB, hb] at q; exact q
      | succ i => rw [canB, hb, Bool.true_or] at q; exact q
    | false =>
      refine iteF ?_
      cases j with
      | zero =>
        rw [canB, hb] at q
        refine sFor_here (D' := fun xs => xs = []) (fun Q' hq => ?_) (fun xs hx => ?_)
        · walk_at "dred7"
          exact ⟨Nat.zero_le _, hq _ rfl⟩
        subst hx
        exact q
      | succ i =>
        rw [canB, hb, Bool.false_or] at q
        refine sFor_here (D' := fun xs => xs = (pairsOf ps).map pairD) (fun Q' hq => ?_) (fun xs hx => ?_)
        · walk_at "dred7"
          rw [decide_eq_true (show (0 : Int) < ((i + 1 : Nat) : Int) by omega)]
          refine iteT ?_
          refine ⟨ps, rfl, by have := ok.h9; omega, ?_⟩
          walk_at "dred7"
          exact hq _ rfl
        subst hx
        refine dFor_go (xs := pairsOf ps) (h := pairD) (fun d ρ => (d.any fun p => canB ps k i (withT ts p 1)) = false ∧ ∃ s3, ρ = [Sl.val (netD ps ts), .val (.int k), .val (.int ((i + 1 : Nat) : Int)), s3]) ⟨rfl, .emp, rfl⟩ (fun d x r e ρ ⟨hd, s3, hρ⟩ E2 hE hrt => ?_) (fun ρ ⟨hd, s3, hρ⟩ => ?_)
        · subst hρ
          walk_at "dred7"
          refine ⟨ps, ts, x, 1, rfl, ok.nd, by omega, ?_⟩
          have ej : ((i + 1 : Nat) : Int) - 1 = (i : Nat) := by omega
          rw [ej]
          have l2 := withT_len ts x 1
          refine hR ps (withT ts x 1) k i _ (by omega) ⟨ok.h9, ok.str, by omega, withT_nodup x 1 ok.nd⟩ ?_
          rw [asBl_bl]
          cases hc : canB ps k i (withT ts x 1) with
          | true =>
            refine iteT ?_
            rw [hrt]
            have : ((pairsOf ps).any fun p => canB ps k i (withT ts p 1)) = true := List.any_eq_true.mpr ⟨x, by rw [e]; exact List.mem_append_right _ List.mem_cons_self, hc⟩
            rw [this] at q
            exact q
          | false =>
            refine iteF ?_
            exact hE _ ⟨by rw [List.any_append, hd, List.any_cons, hc]; rfl, _, rfl⟩
        · subst hρ
          walk_at "dred7"
          rw [hd] at q
          exact q
def spLawRight : DSp := fun xs Q => xs = [.cell] ∧ Q (.bl true)
theorem NetS.made {ps : List Str} {ts : Ties} {n : Int} (h : NetS ps ts) (g : GoodB n ps ts) (hn : n ≤ 50) : MadeOk ps ts := made_of h.asc h.words (by have := h.two; omega) (by have := h.six; omega) g (by omega)
theorem good_mg {ps : List Str} {ts : Ties} {n : Int} (asc : ps.Pairwise fun a b => ltS a b = true) (g : GoodB n ps ts) : MG ps (sortTi ts) := by
  have g2 := goodB_perm (sortTi_perm g.nodup) g
  exact ⟨asc, g2.keys, g2.nodup, g2.pos⟩
theorem few_run {ps : List Str} {ts : Ties} {n k : Int} {Q : D → Prop} (asc : ps.Pairwise fun a b => ltS a b = true) (h2 : 2 ≤ ps.length) (h6 : ps.length ≤ 6) (g : GoodB n ps ts) (hn : n ≤ 50) (k2 : 2 ≤ k) (k9 : k ≤ 9) (q : ∀ m, CntOk ps (lackT ps ts k) m → Q (.int ((sumM m ps + 1) / 2))) : spFewTies C [madeD C ps (sortTi ts), .int k] Q := by
  have g2 := goodB_perm (sortTi_perm g.nodup) g
  have l := goodB_len g2 (by omega)
  refine ⟨ps, sortTi ts, k, rfl, good_mg asc g, by omega, by omega, by omega, k2, k9, ?_⟩
  rw [lack_same (sortTi_perm g.nodup)]
  exact q
theorem ok__law_right {f : Addr} {fd : FuncData} {k : Nat} (F : Fun K "_law_right" "_law_right" s__law_right f fd) (m_min : mg "min" = none) (m_max : mg "max" = none) (G__law_small_net : DFn P w K mg base k "_law_small_net" [] spSmall) (G__law_roll : DFn P w K mg base k "_law_roll" [] spRollD) (G__law_made : DFn P w K mg base k "_law_made" [] (spLawMade C)) (G_fewest_ties : DFn P w K mg base k "fewest_ties" [] (spFewTies C)) (G__law_can : DFn P w K mg base k "_law_can" [] (spCan 2)) (G__law_some : DFn P w K mg base k "_law_some" [] spSomeDD) (G__law_pairs : DFn P w K mg base k "_law_pairs" [] spLawPairs) (G__law_with : DFn P w K mg base k "_law_with" [] spWithD) : FnOk P w K mg base CX0 (k + 1) f fd ["dice"] (spD spLawRight) := by
  refine fnD_ok F sc__law_right (fun xs Q h => ?_) (fun dc cdv A outer s0 H E hr =>
    (dss_cons (ds_par (i := 3) (j := 4) rfl sc__law_right.nd rfl rfl (by decide) rfl rfl (da_cons (de_fn G__law_small_net hr (Nat.le_refl _) (by rfl) (da_cons (de_var 0) da_nil)) (da_cons (de_op opd_add de_int (de_fn G__law_roll hr (Nat.le_refl _) (by rfl) (da_cons (de_var 0) (da_cons de_int da_nil)))) da_nil)) (by rfl))
      (dss_cons (ds_set (i := 1) sc__law_right.nd rfl (by first | exact Or.inl rfl | exact Or.inr rfl) (de_fn G_fewest_ties hr (Nat.le_refl _) (by rfl) (da_cons (de_fn G__law_made hr (Nat.le_refl _) (by rfl) (da_cons (de_var 3) da_nil)) (da_cons (de_var 4) da_nil))))
      (dss_cons (ds_if ((dw_or ((dw_and (dc_cmp opd_gt (de_var 1) de_int (nomark _)) (dw_and1 (dc_val (de_fn G__law_can hr (Nat.le_refl _) (by rfl) (da_cons (de_var 3) (da_cons (de_var 4) (da_cons (de_callB (cd_min2 rfl) (by rfl) m_min (by decide +kernel) (da_cons (de_op opd_sub (de_var 1) de_int) (da_cons de_int da_nil))) da_nil)))))))).toC (dw_or1 ((dw_and (dc_cmp opd_lt (de_var 1) de_int (nomark _)) (dw_and1 (dc_not (dc_val (de_fn G__law_can hr (Nat.le_refl _) (by rfl) (da_cons (de_var 3) (da_cons (de_var 4) (da_cons (de_var 1) da_nil))))))))).toC))).toC (dss_one (ds_ret de_bl)) dss_nil)
      (dss_cons (ds_for PassesOwn.never rfl (di_seq (de_fn G__law_some hr (Nat.le_refl _) (by rfl) (da_cons (de_var 0) (da_cons (de_fn G__law_pairs hr (Nat.le_refl _) (by rfl) (da_cons (de_sub (hu_of hr) (de_var 3) de_str) da_nil)) (da_cons de_int da_nil))))) (dg_name (i := 2) sc__law_right.nd rfl (by first | exact Or.inl rfl | exact Or.inr rfl)) (dss_cons (ds_set (i := 5) sc__law_right.nd rfl (by first | exact Or.inl rfl | exact Or.inr rfl) (de_fn G_fewest_ties hr (Nat.le_refl _) (by rfl) (da_cons (de_fn G__law_made hr (Nat.le_refl _) (by rfl) (da_cons (de_fn G__law_with hr (Nat.le_refl _) (by rfl) (da_cons (de_var 3) (da_cons (de_var 2) (da_cons de_int da_nil)))) da_nil)) (da_cons (de_var 4) da_nil))))
      (dss_one (ds_if (dc_not (dc_chain opd_le opd_le (de_callB (cd_max2 rfl) (by rfl) m_max (by decide +kernel) (da_cons de_int (da_cons (de_op opd_sub (de_var 1) de_int) da_nil))) (de_var 5) (de_var 1))) (dss_one (ds_ret de_bl)) dss_nil))))
      (dss_one (ds_ret de_bl))))))) (fun xs Q h => ?_)
  · obtain ⟨rfl, _⟩ := h; rfl
  · obtain ⟨rfl, q⟩ := h
    refine sSeq_of (I := fun ρ => ∃ ps ts k, NetS ps ts ∧ (k = 2 ∨ k = 3) ∧ ρ = [Sl.val D.cell, .emp, .emp, .val (netD ps ts), .val (.int k), .emp]) (fun N hN => ?_) (fun ρ ⟨ps, ts, k, n, hk, hρ⟩ => ?_)
    · walk_at "dred7"
      refine ⟨rfl, fun ps ts n => ?_⟩
      refine ⟨2, rfl, by decide, by decide, fun r r0 r2 => ?_⟩
      walk_at "dred7"
      exact hN _ ⟨ps, ts, 2 + r, n, by omega, rfl⟩
    subst hρ
    have nd := asc_nodup n.asc
    have h2 := n.two
    have h6 := n.six
    have g := n.good
    have gl := goodB_len g (by decide)
    have so : ∀ x ∈ ps, PyData.strOk x = true := fun x hx => strOk_of (n.words x hx).2.2
    have ok : ∀ j, j ≤ 2 → CanOk ps ts j := fun j hj => ⟨by omega, so, by omega, g.nodup⟩
    refine sSeq_of (I := fun ρ => ∃ m, CntOk ps (lackT ps ts k) m ∧ ρ = [Sl.val D.cell, .val (.int ((sumM m ps + 1) / 2)), .emp, .val (netD ps ts), .val (.int k), .emp]) (fun N hN => ?_) (fun ρ ⟨m, hm, hρ⟩ => ?_)
    · walk_at "dred7"
      refine ⟨ps, ts, rfl, n.made g (by decide), fun qs pm srt => ?_⟩
      rw [sorted_eq n.asc pm srt]
      exact few_run n.asc h2 h6 g (by decide) (by omega) (by omega) fun m hm => hN _ ⟨m, hm, rfl⟩
    subst hρ
    obtain ⟨fe, _⟩ := cnt_feas nd g hm
    have s0 : 0 ≤ sumM m ps := by
      rw [← mS_all]
      exact Few.mS_nn fe.nn
    generalize hF : (sumM m ps + 1) / 2 = F
    have F0 : 0 ≤ F := by omega
    have lo : ∀ j : Nat, (j : Int) < F → canB ps k j ts = false := fun j hj => Bool.eq_false_iff.mpr fun z => by
      have := can_ge nd g hm z
      omega
    have hi : ∀ j : Nat, (j : Int) = F → j ≤ 2 → canB ps k j ts = true := fun j hj j2 => can_two nd (by omega) j j2 g fe (by rw [mS_all]; omega)
    refine sSeq_no (fun K' hK => ?_) ?_
    · walk_at "dred7"
      have tail : if decide (F < 3) = true then spCan 2 [netD ps ts, .int k, .int F] fun x => asBl x fun c => K' !c else K' false := by
        by_cases c3 : F < 3
        · rw [decide_eq_true c3, if_pos rfl]
          refine ⟨ps, ts, k, F.toNat, by rw [show ((F.toNat : Nat) : Int) = F by omega], by omega, ok _ (by omega), ?_⟩
          show asBl (.bl (canB ps k F.toNat ts)) _
          rw [asBl_bl, hi F.toNat (by omega) (by omega)]
          exact hK
        · rw [decide_eq_false c3, if_neg Bool.false_ne_true]
          exact hK
      by_cases c0 : 0 < F
      · rw [decide_eq_true c0, if_pos rfl]
        have key : ∀ j : Nat, j ≤ 2 → (j : Int) < F → spCan 2 [netD ps ts, .int k, .int (j : Nat)] fun x => asBl x fun c => if c = true then K' true else if decide (F < 3) = true then spCan 2 [netD ps ts, .int k, .int F] fun x => asBl x fun c => K' !c else K' false := fun j j2 jF => by
          refine ⟨ps, ts, k, j, rfl, j2, ok j j2, ?_⟩
          show asBl (.bl (canB ps k j ts)) _
          rw [asBl_bl, lo j jF]
          exact iteF tail
        by_cases cm : 2 < F - 1
        · rw [if_pos cm]
          exact key 2 (by decide) (by omega)
        · rw [if_neg cm]
          have := key (F - 1).toNat (by omega) (by omega)
          rw [show (((F - 1).toNat : Nat) : Int) = F - 1 by omega] at this
          exact this
      · rw [decide_eq_false c0, if_neg Bool.false_ne_true, if_neg Bool.false_ne_true]
        exact tail
    refine sSeq_of (I := fun ρ => True) (fun N hN => ?_) (fun ρ _ => ?_)
    · refine sFor_here (D' := fun xs => ∀ y ∈ xs, ∃ p ∈ pairsOf ps, y = pairD p) (fun Q' hq => ?_) (fun xs hxs => ?_)
      · walk_at "dred7"
        refine ⟨ps, rfl, by omega, ?_⟩
        have pl : (pairsOf ps).length ≤ 1000 := by
          have p2 := pairsOf_len ps ps
          have h36 : ps.length * ps.length ≤ 6 * 6 := Nat.mul_le_mul h6 h6
          unfold pairsOf
          omega
        refine ⟨_, 4, rfl, by omega, by omega, by rw [List.length_map]; omega, fun ys rest pm => ?_⟩
        dsimp only
        rw [asSeq_lst]
        exact hq _ fun y hy => by
          obtain ⟨p, hp, rfl⟩ := List.mem_map.mp (pm.mem_iff.mp (List.mem_append_left _ hy))
          exact ⟨p, hp, rfl⟩
      refine dFor_inv (fun ρ => ∃ s2 s5, ρ = [Sl.val D.cell, .val (.int F), s2, .val (netD ps ts), .val (.int k), s5]) _ _ (fun x hx ρ ⟨s2, s5, hρ⟩ E2 hE hrt => ?_) ⟨_, _, rfl⟩ (fun ρ _ => hN _ trivial)
      subst hρ
      obtain ⟨p, hp, rfl⟩ := hxs x hx
      have g' := good_with g hp
      walk_at "dred7"
      refine ⟨ps, ts, p, 1, rfl, g.nodup, by omega, ?_⟩
      refine ⟨ps, withT ts p 1, rfl, made_of n.asc n.words (by omega) (by omega) g' (by decide), fun qs pm srt => ?_⟩
      rw [sorted_eq n.asc pm srt]
      refine few_run n.asc h2 h6 g' (by decide) (by omega) (by omega) fun m' hm' => ?_
      obtain ⟨o1, o2⟩ := one_more nd g hp hm hm'
      obtain ⟨fe', _⟩ := cnt_feas nd g' hm'
      have s0' : 0 ≤ sumM m' ps := by
        rw [← mS_all]
        exact Few.mS_nn fe'.nn
      walk_at "dred7"
      unfold dChain
      walk_at "dred7"
      rw [decide_eq_true (show (if F - 1 > 0 then F - 1 else 0) ≤ (sumM m' ps + 1) / 2 by split <;> omega)]
      walk_at "dred7"
      rw [decide_eq_true (show (sumM m' ps + 1) / 2 ≤ F by omega)]
      exact hE _ ⟨_, _, rfl⟩
    · walk_at "dred7"
      exact q
end O61
end
/-! ### law k61's law -/
abbrev s_law : Stmt := topS 63
theorem sc_law : FnScope ["script", "spot", "dice", "turn"] ["script"] (defScope s_law) := ⟨rfl, rfl, rfl, by decide +kernel, rfl, by decide +kernel, by decide +kernel⟩
theorem list3 {α : Type} {r : List α} (h : r.length = 3) : ∃ a b c, r = [a, b, c] := by
  match r, h with
  | [a, b, c], _ => exact ⟨a, b, c, rfl⟩
def frT : Hp := fun b => if b ∈ Tbs.T.map (·.1) then some (.tbl #[]) else none
theorem pre_start {H : Hp} (h : ∀ p ∈ Tbs.T, H p.1 = some (.tbl #[])) : Pre none frT H := by
  refine ⟨fun a o e => ?_, fun _ e => (nomatch e), fun p hp => ⟨if_pos (List.mem_map.mpr ⟨p, hp, rfl⟩), #[], h p hp, trivial, fun pos cv e => ?_⟩⟩
  · unfold frT at e
    by_cases c : a ∈ Tbs.T.map (·.1)
    · rw [if_pos c] at e
      cases e
      obtain ⟨p, hp, rfl⟩ := List.mem_map.mp c
      exact ⟨_, h p hp⟩
    · rw [if_neg c] at e
      cases e
  · cases e
theorem seq_ext {K : PySem.W.Frag} {dc : Option Addr} {F H F' H' : Hp} {a : Addr} {xs : List V} (e : Ext dc F H F' H') (hd : dc ≠ some a) (s : SqL K H a xs) : SqL K H' a xs := by
  rcases s with s | s
  · refine .inl ?_
    rcases s with s | ⟨o, s⟩
    · exact .inl (own_kp trivial (e.keep _ _ hd s))
    · exact .inr ⟨o, own_kp trivial (e.keep _ _ hd s)⟩
  · exact .inr s
def spLaw (K : PySem.W.Frag) : Sp := fun vs H Q _ => ∃ (a : Addr) (ns : List Int), vs = [.ref a] ∧ (∀ p ∈ Tbs.T, H p.1 = some (.tbl #[])) ∧ SqL K H a (ns.map V.int) ∧ ns.length ≤ 63 ∧ ∀ H', Q (.bl true) H'
section
variable {P : Program} {w : World} {K : PySem.W.Frag} {mg : Str → Option Value} {base : Heap} {C : Addr}
namespace O61
open O8 O12 O30
theorem ok_law {f g1 : Addr} {fd gd1 : FuncData} {k : Nat} (F : Fun K "law" "law" s_law f fd)
    (G1 : FnOk P w K mg base CX0 (k + 1) g1 gd1 ["script", "spot"] (spDice K)) (gk1 : PySem.W.keepIn K (.ref g1) = true) (gb1 : Binds K gd1 ["script", "spot"] []) (mg1 : mg "_law_dice" = some (.ref g1))
    (G__law_right : DFn P w K mg base (k + 1) "_law_right" [] spLawRight)
    (m_len : mg "len" = none) (m_range : mg "range" = none) (m_min : mg "min" = none) (m_max : mg "max" = none) :
    FnOk P w K mg base CX0 (k + 1 + 1) f fd ["script"] (spLaw K) := by
  refine F.ok sc_law (fun vs H Q E h => ?_) (fun cdv A outer s H vs Q E hr h => ?_)
  · obtain ⟨a, ns, rfl, _⟩ := h
    rfl
  · obtain ⟨a, ns, rfl, hT, hS, hlen, q⟩ := h
    refine ⟨_, pss_cons (ps_for PassesOwn.never rfl (pi_range1 (by rfl) m_range (pa_cons (pe_callB (call_max2 rfl) (by rfl) m_max (by decide +kernel) (pa_cons pe_int (pa_cons (pe_callB (call_min2 rfl) (by rfl) m_min (by decide +kernel) (pa_cons pe_int (pa_cons (pe_callB call_len_seq (by rfl) m_len PySem.boot_len (pa_cons (pv 0) pa_nil)) pa_nil))) pa_nil))) pa_nil))
        (pg_name (i := 1) sc_law.nd rfl (.inl rfl))
        (pss_cons (ps_set (i := 2) sc_law.nd rfl (by first | exact Or.inl rfl | exact Or.inr rfl) (pe_call G1 hr (by rfl) mg1 gk1 gb1 .nil pass0 (pa_cons (pv 0) (pa_cons (pv 1) pa_nil))))
        (pss_one ps_any)))
      pss_any, ?_⟩
    refine ⟨.ref a, rfl, a, _, rfl, .inl hS, 3, _, rfl, 1, _, rfl, ?_⟩
    rw [List.length_map]
    obtain ⟨c, hc, c1⟩ : ∃ c : Nat, (if (if (ns.length : Int) < 3 then (ns.length : Int) else 3) > 1 then (if (ns.length : Int) < 3 then (ns.length : Int) else 3) else 1) = (c : Int) ∧ c ≤ 3 := by
      refine ⟨(if (if (ns.length : Int) < 3 then (ns.length : Int) else 3) > 1 then (if (ns.length : Int) < 3 then (ns.length : Int) else 3) else 1).toNat, ?_, ?_⟩ <;> split <;> split <;> omega
    refine ⟨(c : Int), congrArg (fun z => [V.int z]) hc, by omega, by omega, for_range (lo := 0) (n := (c : Int).toNat) (fun i σ H' => (∃ r : L2.St, σ = some (.ref a) :: r ∧ r.length = 3) ∧ SqL K H' a (ns.map V.int) ∧ ∃ F, Pre none F H')
      ⟨⟨_, rfl, rfl⟩, hS, frT, pre_start hT⟩ (fun i σ H' hi hP => ?_) (fun σ H' hP => ?_)⟩
    · obtain ⟨⟨r, rfl, hr12⟩, hS1, FF, p0⟩ := hP
      obtain ⟨y1, y2, y3, rfl⟩ := list3 hr12
      refine ⟨.ref a, rfl, .int (0 + (i : Int)), rfl, a, ns, _, rfl, hS1, hlen, by omega, fun D x y z nD => ?_⟩
      have hd0 : DiceAt (upd H' D (.lst [.int x, .int y, .int z])) D := ⟨x, y, z, upd_same⟩
      have sm0 : Same H' (upd H' D (.lst [.int x, .int y, .int z])) := same_upd nD
      have pg := (Ext.grow p0 sm0).pre
      have sq : SqL K (upd H' D (.lst [.int x, .int y, .int z])) a (ns.map V.int) := sm0.seq hS1
      generalize hHd : upd H' D (.lst [.int x, .int y, .int z]) = Hd at hd0 sm0 pg sq ⊢
      refine DS.any (dc := some D) ((ds_for PassesOwn.never rfl (di_range1 (by rfl) m_range (da_cons de_int da_nil)) (dg_name (i := 3) sc_law.nd rfl (by first | exact Or.inl rfl | exact Or.inr rfl)) (dss_one (ds_if (dc_not (dc_val (de_fn G__law_right hr (Nat.le_refl _) (by rfl) (da_cons (de_var 2) da_nil)))) (dss_one (ds_ret de_bl)) dss_nil)))) (E := { nx := fun ρ => ∃ s1 s3, ρ = [.val (.raw (.ref a)), s1, .val .cell, s3], rt := fun _ => False })
        (SInv.bare (ρ := [.val (.raw (.ref a)), .emp, .val .cell, .emp]) pg (fun d e => by cases e; exact ⟨hd0, p0.nf nD⟩) rfl (fun j x hx => ?_) (fun j x hx => ?_)) ⟨fun ρ σ F1 H1 I1 ⟨s1, s3, e⟩ => ?_, fun _ _ _ _ _ _ z => z.elim, fun _ _ _ _ _ z => z.elim, fun _ _ _ _ _ z => z.elim⟩ ?_
      · match j, hx with
        | 0, hx => cases hx; exact ⟨_, rfl, .raw _⟩
        | 2, hx => cases hx; exact ⟨_, rfl, .cell rfl⟩
        | 1, hx | 3, hx => cases hx
      · match j, hx with
        | 0, hx | 1, hx | 2, hx | 3, hx => cases hx
      · subst e
        obtain ⟨v, hv, rv⟩ := I1.vals 0 _ rfl
        cases rv
        have hl := I1.len
        cases σ with
        | nil => cases hv
        | cons y r =>
          cases hv
          have e := I1.ext
          refine ⟨⟨r, rfl, by simpa using hl.symm⟩, ?_, F1, ⟨e.pre.sub, fun _ z => (nomatch z), e.pre.tabs⟩⟩
          rcases hS1 with s | s
          · refine seq_ext e (fun z => ?_) sq
            cases z
            rcases s with s | ⟨o, s⟩ <;> (rw [nD] at s; cases s)
          · exact .inr s
      · walk_at "dred7"
        refine sFor_here (D' := fun _ => True) (fun Q' hq => ⟨by decide, by decide, hq _ trivial⟩) (fun xs _ => ?_)
        refine dFor_inv (fun ρ => ∃ s1 s3, ρ = [.val (.raw (.ref a)), s1, .val .cell, s3]) _ _ (fun x _ ρ ⟨s1, s3, e⟩ E2 hE hrt => ?_) ⟨_, _, rfl⟩ (fun ρ h => h)
        subst e
        walk_at "dred7"
        refine ⟨rfl, ?_⟩
        walk_at "dred7"
        exact iteF (hE _ ⟨_, _, rfl⟩)
    · obtain ⟨⟨r, rfl, hr12⟩, hS1, FF, p0⟩ := hP
      refine DSs.any (dc := none) ((dss_one (ds_ret de_bl))) (E := { nx := fun _ => False, rt := fun x => x = .bl true }) (SInv.bare (ρ := .val (.raw (.ref a)) :: List.replicate 3 .emp) p0 (fun _ z => nomatch z) ?_ ?_ ?_) ⟨fun _ _ _ _ _ z => z.elim, fun x v F' H'' _ rx e => ?_, fun _ _ _ _ _ z => z.elim, fun _ _ _ _ _ z => z.elim⟩ ?_
      · rw [List.length_cons, List.length_cons, hr12]; rfl
      · intro i x hx
        cases i with
        | zero => cases hx; exact ⟨_, rfl, .raw _⟩
        | succ i => cases (List.mem_replicate.mp (List.mem_of_getElem? (show (List.replicate 3 Sl.emp)[i]? = _ from hx))).2
      · intro i x hx
        cases i with
        | zero => cases hx
        | succ i => cases (List.mem_replicate.mp (List.mem_of_getElem? (show (List.replicate 3 Sl.emp)[i]? = _ from hx))).2
      · subst e
        cases rx
        exact q _
      · walk_at "dred7"
end O61
end
/-! ### what is promised of less -/
section
open O12 O8 O30 O61
variable {C : Addr} {K : PySem.W.Frag}
theorem mo_check_place : Mono (spCheckPlace C) := fun _ _ _ hP ⟨a, b, c, e, f, q⟩ => ⟨a, b, c, e, f, hP _ q⟩
theorem mo_places : Mono (spPlaces C) := fun _ _ _ hP ⟨a, b, e, q⟩ => ⟨a, b, e, hP _ q⟩
theorem mo_ties : Mono (spTies C) := fun _ _ _ hP ⟨a, b, e, f, g, q⟩ => ⟨a, b, e, f, g, hP _ q⟩
theorem mo_degree : Mono (spDegree C) := fun _ _ _ hP ⟨a, b, c, e, f, g, h, q⟩ => ⟨a, b, c, e, f, g, h, hP _ q⟩
theorem mo_degrees : Mono (spDegrees C) := fun _ _ _ hP ⟨a, b, e, f, g, h, i, q⟩ => ⟨a, b, e, f, g, h, i, hP _ q⟩
theorem mo_check_net : Mono (spCheckNet C) := fun _ _ _ hP ⟨a, b, e, q⟩ => ⟨a, b, e, hP _ q⟩
theorem mo_intD : Mono spIntD := fun _ _ _ hP ⟨i, e, f, g, q⟩ => ⟨i, e, f, g, hP _ q⟩
theorem mo_all_cuts : Mono (spAllCuts C) := fun _ _ _ hP ⟨a, b, e, f, g, h, q⟩ => ⟨a, b, e, f, g, h, hP _ q⟩
theorem mo_has_place : Mono spHasPlace := fun _ _ _ hP ⟨m, a, e, q⟩ => ⟨m, a, e, hP _ q⟩
theorem mo_net : Mono spNetD := fun _ _ _ hP ⟨e, q⟩ => ⟨e, fun ps ts g => hP _ (q ps ts g)⟩
theorem mo_made : Mono (spLawMade C) := fun _ _ _ hP ⟨a, b, e, f, q⟩ => ⟨a, b, e, f, fun qs x y => hP _ (q qs x y)⟩
theorem mo_law_lots : Mono spLawLots := fun _ _ _ hP ⟨a, b, e, f, q⟩ => ⟨a, b, e, f, hP _ q⟩
theorem mo_law_cut : Mono spLawCut := fun _ _ _ hP ⟨a, b, c, e, f, g, q⟩ => ⟨a, b, c, e, f, g, hP _ q⟩
theorem mo_roll : Mono spRollD := fun _ _ _ hP ⟨n, e, a, b, q⟩ => ⟨n, e, a, b, fun r x y => hP _ (q r x y)⟩
theorem mo_lawPairs : Mono spLawPairs := fun _ _ _ hP ⟨x0, x1, x2, q⟩ => ⟨x0, x1, x2, hP _ q⟩
theorem mo_withD : Mono spWithD := fun _ _ _ hP ⟨x0, x1, x2, x3, x4, x5, x6, q⟩ => ⟨x0, x1, x2, x3, x4, x5, x6, hP _ q⟩
theorem mo_someD : Mono spSomeD := fun _ _ _ hP ⟨a, b, c, d, e, f, q⟩ => ⟨a, b, c, d, e, f, fun y r h l => hP _ (q y r h l)⟩
theorem mo_someDD : Mono spSomeDD := fun _ _ _ hP ⟨a, b, c, d, e, f, q⟩ => ⟨a, b, c, d, e, f, fun y r h => hP _ (q y r h)⟩
theorem mo_allSums : Mono spAllSums := fun _ _ _ hP ⟨x0, x1, x2, x3, q⟩ => ⟨x0, x1, x2, x3, hP _ q⟩
theorem mo_fewCounts : Mono spFewCounts := fun _ _ _ hP ⟨x0, x1, x2, x3, x4, x5, x6, x7, q⟩ => ⟨x0, x1, x2, x3, x4, x5, x6, x7, fun m h => hP _ (q m h)⟩
theorem mo_fewSum : Mono spFewSum := fun _ _ _ hP ⟨x0, x1, x2, x3, x4, x5, x6, x7, q⟩ => ⟨x0, x1, x2, x3, x4, x5, x6, x7, fun m h => hP _ (q m h)⟩
theorem mo_lackBelow : Mono spLackBelow := fun _ _ _ hP ⟨x0, x1, x2, q⟩ => ⟨x0, x1, x2, hP _ q⟩
theorem mo_allLacks : Mono (spAllLacks C) := fun _ _ _ hP ⟨x0, x1, x2, x3, x4, x5, x6, x7, q⟩ => ⟨x0, x1, x2, x3, x4, x5, x6, x7, hP _ q⟩
theorem mo_checkFold : Mono (spCheckFold C) := fun _ _ _ hP ⟨x0, x1, x2, x3, x4, x5, q⟩ => ⟨x0, x1, x2, x3, x4, x5, hP _ q⟩
theorem mo_fewEnds : Mono (spFewEnds C) := fun _ _ _ hP ⟨x0, x1, x2, x3, x4, x5, x6, x7, x8, x9, q⟩ => ⟨x0, x1, x2, x3, x4, x5, x6, x7, x8, x9, fun m h => hP _ (q m h)⟩
theorem mo_halfUp : Mono spHalfUp := fun _ _ _ hP ⟨x0, x1, q⟩ => ⟨x0, x1, hP _ q⟩
theorem mo_fewTies : Mono (spFewTies C) := fun _ _ _ hP ⟨x0, x1, x2, x3, x4, x5, x6, x7, x8, x9, q⟩ => ⟨x0, x1, x2, x3, x4, x5, x6, x7, x8, x9, fun m h => hP _ (q m h)⟩
theorem mo_isFold : Mono spLawIsFold := fun _ _ _ hP ⟨x0, x1, x2, x3, x4, x5, x6, x7, q⟩ => ⟨x0, x1, x2, x3, x4, x5, x6, x7, hP _ q⟩
theorem mo_small : Mono spSmall := fun _ _ _ hP ⟨e, q⟩ => ⟨e, fun ps ts n => hP _ (q ps ts n)⟩
theorem mo_can {N : Nat} : Mono (spCan N) := fun _ _ _ hP ⟨x0, x1, x2, x3, x4, x5, x6, q⟩ => ⟨x0, x1, x2, x3, x4, x5, x6, hP _ q⟩
theorem mo_right : Mono O61.spLawRight := fun _ _ _ hP ⟨e, q⟩ => ⟨e, hP _ q⟩
theorem mo_false : Mono (fun _ _ => False) := fun _ _ _ _ h => h
theorem can_none {P : Program} {w : World} {mg : Str → Option Value} {base : Heap} {f : Addr} {fd : FuncData} {k : Nat} (F : Fun K "_law_can" "_law_can" s__law_can f fd) : FnOk P w K mg base CX0 (k + 1) f fd ["net", "fold", "left"] (spD fun _ _ => False) :=
  F.ok sc__law_can (fun _ _ _ _ ⟨_, _, _, _, _, h⟩ => h.elim) (fun _ _ _ _ _ _ _ _ _ ⟨_, _, _, _, _, h⟩ => h.elim)
end
open O12 O8
/-! ### what the top has written -/
omit [Tbs] in
set_option maxHeartbeats 0 in
theorem all_mk {l : PySem.W.OpenLaw} {w : World} {K : PySem.W.Frag} {h : Heap} {mg : Str → Option Value} {fa C f0 f1 f2 f3 f4 f5 f6 f7 f8 f9 f10 f11 f12 f13 f14 f15 f16 f17 f18 f19 f20 f21 f22 f23 f24 f25 f26 f27 f28 f29 f30 f31 f32 f33 h0 h1 h2 h3 h4 h5 p1 p2 p3 : Addr} (X : K.In h) (G : h.Ns mainGlobals mg) (hfa : mg "law" = some (.ref fa))
    {t1 t2 t3 t4 t5 : Tok} {od0 an0 od1 an1 od2 an2 od3 an3 od4 an4 od5 an5 od6 an6 od7 an7 od8 an8 od9 an9 od10 an10 od11 an11 od12 an12 od13 an13 od14 an14 od15 an15 od16 an16 od17 an17 od18 an18 od19 an19 od20 an20 od21 an21 od22 an22 od23 an23 od24 an24 od25 an25 od26 an26 od27 an27 od28 an28 od29 an29 od30 an30 od31 an31 od32 an32 od33 an33 odm0 anm0 odm1 anm1 odm2 anm2 odm3 anm3 odm4 anm4 odm5 anm5 : Option Addr} {sl0 sl1 sl2 sl3 sl4 sl5 sl6 sl7 sl8 sl9 sl10 sl11 sl12 sl13 sl14 sl15 sl16 sl17 sl18 sl19 sl20 sl21 sl22 sl23 sl24 sl25 sl26 sl27 sl28 sl29 sl30 sl31 sl32 sl33 slm0 slm1 slm2 slm3 slm4 slm5 : Array (Option Value)} {oc0 kV0 dc0 pm0 cd0 ct0 oc1 kV1 dc1 pm1 cd1 ct1 oc2 kV2 dc2 pm2 cd2 ct2 oc3 kV3 dc3 pm3 cd3 ct3 oc4 kV4 dc4 pm4 cd4 ct4 oc5 kV5 dc5 pm5 cd5 ct5 oc6 kV6 dc6 pm6 cd6 ct6 oc7 kV7 dc7 pm7 cd7 ct7 oc8 kV8 dc8 pm8 cd8 ct8 oc9 kV9 dc9 pm9 cd9 ct9 oc10 kV10 dc10 pm10 cd10 ct10 oc11 kV11 dc11 pm11 cd11 ct11 oc12 kV12 dc12 pm12 cd12 ct12 oc13 kV13 dc13 pm13 cd13 ct13 oc14 kV14 dc14 pm14 cd14 ct14 oc15 kV15 dc15 pm15 cd15 ct15 oc16 kV16 dc16 pm16 cd16 ct16 oc17 kV17 dc17 pm17 cd17 ct17 oc18 kV18 dc18 pm18 cd18 ct18 oc19 kV19 dc19 pm19 cd19 ct19 oc20 kV20 dc20 pm20 cd20 ct20 oc21 kV21 dc21 pm21 cd21 ct21 oc22 kV22 dc22 pm22 cd22 ct22 oc23 kV23 dc23 pm23 cd23 ct23 oc24 kV24 dc24 pm24 cd24 ct24 oc25 kV25 dc25 pm25 cd25 ct25 oc26 kV26 dc26 pm26 cd26 ct26 oc27 kV27 dc27 pm27 cd27 ct27 oc28 kV28 dc28 pm28 cd28 ct28 oc29 kV29 dc29 pm29 cd29 ct29 oc30 kV30 dc30 pm30 cd30 ct30 oc31 kV31 dc31 pm31 cd31 ct31 oc32 kV32 dc32 pm32 cd32 ct32 oc33 kV33 dc33 pm33 cd33 ct33 ocm0 kVm0 dcm0 pmm0 cdm0 ctm0 ocm1 kVm1 dcm1 pmm1 cdm1 ctm1 ocm2 kVm2 dcm2 pmm2 cdm2 ctm2 ocm3 kVm3 dcm3 pmm3 cdm3 ctm3 ocm4 kVm4 dcm4 pmm4 cdm4 ctm4 ocm5 kVm5 dcm5 pmm5 cdm5 ctm5 : Value}
    {T0 : Addr} {ocT : Value} {odT : Option Addr} {nT : Nat} {slT : Array (Option Value)} {rs1 rs2 rs3 : List Value}
    (a0 : PySem.W.nsIn K mainGlobals "is_integer" = some (some (.ref f0)))
    (l0 : K.lookup f0 = some ⟨oc0, od0, .func (PySem.W.fnOf "is_integer" "is_integer" (defArgs sIsInt) (defBody sIsInt) (defScope sIsInt) .none kV0 dc0 pm0 an0 cd0 ct0), sl0⟩)
    (c0 : PySem.W.codeIn K cd0 "is_integer" = true)
    (k0 : PySem.W.keepIn K (.ref f0) = true)
    (a1 : PySem.W.nsIn K mainGlobals "is_word" = some (some (.ref f1)))
    (l1 : K.lookup f1 = some ⟨oc1, od1, .func (PySem.W.fnOf "is_word" "is_word" (defArgs sIsWord) (defBody sIsWord) (defScope sIsWord) .none kV1 dc1 pm1 an1 cd1 ct1), sl1⟩)
    (c1 : PySem.W.codeIn K cd1 "is_word" = true)
    (k1 : PySem.W.keepIn K (.ref f1) = true)
    (a2 : PySem.W.nsIn K mainGlobals "is_pair" = some (some (.ref f2)))
    (l2 : K.lookup f2 = some ⟨oc2, od2, .func (PySem.W.fnOf "is_pair" "is_pair" (defArgs sIsPair) (defBody sIsPair) (defScope sIsPair) .none kV2 dc2 pm2 an2 cd2 ct2), sl2⟩)
    (c2 : PySem.W.codeIn K cd2 "is_pair" = true)
    (k2 : PySem.W.keepIn K (.ref f2) = true)
    (a3 : PySem.W.nsIn K mainGlobals "_are_places" = some (some (.ref f3)))
    (l3 : K.lookup f3 = some ⟨oc3, od3, .func (PySem.W.fnOf "_are_places" "_are_places" (defArgs sArePlaces) (defBody sArePlaces) (defScope sArePlaces) .none kV3 dc3 pm3 an3 cd3 ct3), sl3⟩)
    (c3 : PySem.W.codeIn K cd3 "_are_places" = true)
    (k3 : PySem.W.keepIn K (.ref f3) = true)
    (a4 : PySem.W.nsIn K mainGlobals "_are_ties" = some (some (.ref f4)))
    (l4 : K.lookup f4 = some ⟨oc4, od4, .func (PySem.W.fnOf "_are_ties" "_are_ties" (defArgs sAreTies) (defBody sAreTies) (defScope sAreTies) .none kV4 dc4 pm4 an4 cd4 ct4), sl4⟩)
    (c4 : PySem.W.codeIn K cd4 "_are_ties" = true)
    (k4 : PySem.W.keepIn K (.ref f4) = true)
    (a5 : PySem.W.nsIn K mainGlobals "check_net" = some (some (.ref f5)))
    (l5 : K.lookup f5 = some ⟨oc5, od5, .func (PySem.W.fnOf "check_net" "check_net" (defArgs s_check_net) (defBody s_check_net) (defScope s_check_net) .none kV5 dc5 pm5 an5 cd5 ct5), sl5⟩)
    (c5 : PySem.W.codeIn K cd5 "check_net" = true)
    (k5 : PySem.W.keepIn K (.ref f5) = true)
    (a6 : PySem.W.nsIn K mainGlobals "has_place" = some (some (.ref f6)))
    (l6 : K.lookup f6 = some ⟨oc6, od6, .func (PySem.W.fnOf "has_place" "has_place" (defArgs s_has_place) (defBody s_has_place) (defScope s_has_place) .none kV6 dc6 pm6 an6 cd6 ct6), sl6⟩)
    (c6 : PySem.W.codeIn K cd6 "has_place" = true)
    (k6 : PySem.W.keepIn K (.ref f6) = true)
    (a7 : PySem.W.nsIn K mainGlobals "all_cuts" = some (some (.ref f7)))
    (l7 : K.lookup f7 = some ⟨oc7, od7, .func (PySem.W.fnOf "all_cuts" "all_cuts" (defArgs s_all_cuts) (defBody s_all_cuts) (defScope s_all_cuts) .none kV7 dc7 pm7 an7 cd7 ct7), sl7⟩)
    (c7 : PySem.W.codeIn K cd7 "all_cuts" = true)
    (k7 : PySem.W.keepIn K (.ref f7) = true)
    (a8 : PySem.W.nsIn K mainGlobals "all_sums" = some (some (.ref f8)))
    (l8 : K.lookup f8 = some ⟨oc8, od8, .func (PySem.W.fnOf "all_sums" "all_sums" (defArgs s_all_sums) (defBody s_all_sums) (defScope s_all_sums) .none kV8 dc8 pm8 an8 cd8 ct8), sl8⟩)
    (c8 : PySem.W.codeIn K cd8 "all_sums" = true)
    (k8 : PySem.W.keepIn K (.ref f8) = true)
    (a9 : PySem.W.nsIn K mainGlobals "fewest_counts" = some (some (.ref f9)))
    (l9 : K.lookup f9 = some ⟨oc9, od9, .func (PySem.W.fnOf "fewest_counts" "fewest_counts" (defArgs s_fewest_counts) (defBody s_fewest_counts) (defScope s_fewest_counts) .none kV9 dc9 pm9 an9 cd9 ct9), sl9⟩)
    (c9 : PySem.W.codeIn K cd9 "fewest_counts" = true)
    (k9 : PySem.W.keepIn K (.ref f9) = true)
    (a10 : PySem.W.nsIn K mainGlobals "fewest_sum" = some (some (.ref f10)))
    (l10 : K.lookup f10 = some ⟨oc10, od10, .func (PySem.W.fnOf "fewest_sum" "fewest_sum" (defArgs s_fewest_sum) (defBody s_fewest_sum) (defScope s_fewest_sum) .none kV10 dc10 pm10 an10 cd10 ct10), sl10⟩)
    (c10 : PySem.W.codeIn K cd10 "fewest_sum" = true)
    (k10 : PySem.W.keepIn K (.ref f10) = true)
    (a11 : PySem.W.nsIn K mainGlobals "check_fold" = some (some (.ref f11)))
    (l11 : K.lookup f11 = some ⟨oc11, od11, .func (PySem.W.fnOf "check_fold" "check_fold" (defArgs s_check_fold) (defBody s_check_fold) (defScope s_check_fold) .none kV11 dc11 pm11 an11 cd11 ct11), sl11⟩)
    (c11 : PySem.W.codeIn K cd11 "check_fold" = true)
    (k11 : PySem.W.keepIn K (.ref f11) = true)
    (a12 : PySem.W.nsIn K mainGlobals "_lack_below" = some (some (.ref f12)))
    (l12 : K.lookup f12 = some ⟨oc12, od12, .func (PySem.W.fnOf "_lack_below" "_lack_below" (defArgs s__lack_below) (defBody s__lack_below) (defScope s__lack_below) .none kV12 dc12 pm12 an12 cd12 ct12), sl12⟩)
    (c12 : PySem.W.codeIn K cd12 "_lack_below" = true)
    (k12 : PySem.W.keepIn K (.ref f12) = true)
    (a13 : PySem.W.nsIn K mainGlobals "all_lacks" = some (some (.ref f13)))
    (l13 : K.lookup f13 = some ⟨oc13, od13, .func (PySem.W.fnOf "all_lacks" "all_lacks" (defArgs s_all_lacks) (defBody s_all_lacks) (defScope s_all_lacks) .none kV13 dc13 pm13 an13 cd13 ct13), sl13⟩)
    (c13 : PySem.W.codeIn K cd13 "all_lacks" = true)
    (k13 : PySem.W.keepIn K (.ref f13) = true)
    (a14 : PySem.W.nsIn K mainGlobals "fewest_ends" = some (some (.ref f14)))
    (l14 : K.lookup f14 = some ⟨oc14, od14, .func (PySem.W.fnOf "fewest_ends" "fewest_ends" (defArgs s_fewest_ends) (defBody s_fewest_ends) (defScope s_fewest_ends) .none kV14 dc14 pm14 an14 cd14 ct14), sl14⟩)
    (c14 : PySem.W.codeIn K cd14 "fewest_ends" = true)
    (k14 : PySem.W.keepIn K (.ref f14) = true)
    (a15 : PySem.W.nsIn K mainGlobals "half_up" = some (some (.ref f15)))
    (l15 : K.lookup f15 = some ⟨oc15, od15, .func (PySem.W.fnOf "half_up" "half_up" (defArgs s_half_up) (defBody s_half_up) (defScope s_half_up) .none kV15 dc15 pm15 an15 cd15 ct15), sl15⟩)
    (c15 : PySem.W.codeIn K cd15 "half_up" = true)
    (k15 : PySem.W.keepIn K (.ref f15) = true)
    (a16 : PySem.W.nsIn K mainGlobals "fewest_ties" = some (some (.ref f16)))
    (l16 : K.lookup f16 = some ⟨oc16, od16, .func (PySem.W.fnOf "fewest_ties" "fewest_ties" (defArgs s_fewest_ties) (defBody s_fewest_ties) (defScope s_fewest_ties) .none kV16 dc16 pm16 an16 cd16 ct16), sl16⟩)
    (c16 : PySem.W.codeIn K cd16 "fewest_ties" = true)
    (k16 : PySem.W.keepIn K (.ref f16) = true)
    (a17 : PySem.W.nsIn K mainGlobals "_law_dice" = some (some (.ref f17)))
    (l17 : K.lookup f17 = some ⟨oc17, od17, .func (PySem.W.fnOf "_law_dice" "_law_dice" (defArgs sDice) (defBody sDice) (defScope sDice) .none kV17 dc17 pm17 an17 cd17 ct17), sl17⟩)
    (c17 : PySem.W.codeIn K cd17 "_law_dice" = true)
    (k17 : PySem.W.keepIn K (.ref f17) = true)
    (a18 : PySem.W.nsIn K mainGlobals "_law_roll" = some (some (.ref f18)))
    (l18 : K.lookup f18 = some ⟨oc18, od18, .func (PySem.W.fnOf "_law_roll" "_law_roll" (defArgs sRoll) (defBody sRoll) (defScope sRoll) .none kV18 dc18 pm18 an18 cd18 ct18), sl18⟩)
    (c18 : PySem.W.codeIn K cd18 "_law_roll" = true)
    (k18 : PySem.W.keepIn K (.ref f18) = true)
    (a19 : PySem.W.nsIn K mainGlobals "_law_pick" = some (some (.ref f19)))
    (l19 : K.lookup f19 = some ⟨oc19, od19, .func (PySem.W.fnOf "_law_pick" "_law_pick" (defArgs sPick) (defBody sPick) (defScope sPick) .none kV19 dc19 pm19 an19 cd19 ct19), sl19⟩)
    (c19 : PySem.W.codeIn K cd19 "_law_pick" = true)
    (k19 : PySem.W.keepIn K (.ref f19) = true)
    (a20 : PySem.W.nsIn K mainGlobals "_law_some" = some (some (.ref f20)))
    (l20 : K.lookup f20 = some ⟨oc20, od20, .func (PySem.W.fnOf "_law_some" "_law_some" (defArgs sSome) (defBody sSome) (defScope sSome) .none kV20 dc20 pm20 an20 cd20 ct20), sl20⟩)
    (c20 : PySem.W.codeIn K cd20 "_law_some" = true)
    (k20 : PySem.W.keepIn K (.ref f20) = true)
    (a21 : PySem.W.nsIn K mainGlobals "_law_pair" = some (some (.ref f21)))
    (l21 : K.lookup f21 = some ⟨oc21, od21, .func (PySem.W.fnOf "_law_pair" "_law_pair" (defArgs sPairL) (defBody sPairL) (defScope sPairL) .none kV21 dc21 pm21 an21 cd21 ct21), sl21⟩)
    (c21 : PySem.W.codeIn K cd21 "_law_pair" = true)
    (k21 : PySem.W.keepIn K (.ref f21) = true)
    (a22 : PySem.W.nsIn K mainGlobals "_law_pairs" = some (some (.ref f22)))
    (l22 : K.lookup f22 = some ⟨oc22, od22, .func (PySem.W.fnOf "_law_pairs" "_law_pairs" (defArgs sPairsL) (defBody sPairsL) (defScope sPairsL) .none kV22 dc22 pm22 an22 cd22 ct22), sl22⟩)
    (c22 : PySem.W.codeIn K cd22 "_law_pairs" = true)
    (k22 : PySem.W.keepIn K (.ref f22) = true)
    (a23 : PySem.W.nsIn K mainGlobals "_law_with" = some (some (.ref f23)))
    (l23 : K.lookup f23 = some ⟨oc23, od23, .func (PySem.W.fnOf "_law_with" "_law_with" (defArgs sWith) (defBody sWith) (defScope sWith) .none kV23 dc23 pm23 an23 cd23 ct23), sl23⟩)
    (c23 : PySem.W.codeIn K cd23 "_law_with" = true)
    (k23 : PySem.W.keepIn K (.ref f23) = true)
    (a24 : PySem.W.nsIn K mainGlobals "_law_net" = some (some (.ref f24)))
    (l24 : K.lookup f24 = some ⟨oc24, od24, .func (PySem.W.fnOf "_law_net" "_law_net" (defArgs sNetL) (defBody sNetL) (defScope sNetL) .none kV24 dc24 pm24 an24 cd24 ct24), sl24⟩)
    (c24 : PySem.W.codeIn K cd24 "_law_net" = true)
    (k24 : PySem.W.keepIn K (.ref f24) = true)
    (a25 : PySem.W.nsIn K mainGlobals "_law_known_net" = some (some (.ref f25)))
    (l25 : K.lookup f25 = some ⟨oc25, od25, .func (PySem.W.fnOf "_law_known_net" "_law_known_net" (defArgs sKnown) (defBody sKnown) (defScope sKnown) .none kV25 dc25 pm25 an25 cd25 ct25), sl25⟩)
    (c25 : PySem.W.codeIn K cd25 "_law_known_net" = true)
    (k25 : PySem.W.keepIn K (.ref f25) = true)
    (a26 : PySem.W.nsIn K mainGlobals "_law_made" = some (some (.ref f26)))
    (l26 : K.lookup f26 = some ⟨oc26, od26, .func (PySem.W.fnOf "_law_made" "_law_made" (defArgs s__law_made) (defBody s__law_made) (defScope s__law_made) .none kV26 dc26 pm26 an26 cd26 ct26), sl26⟩)
    (c26 : PySem.W.codeIn K cd26 "_law_made" = true)
    (k26 : PySem.W.keepIn K (.ref f26) = true)
    (a27 : PySem.W.nsIn K mainGlobals "_law_cut" = some (some (.ref f27)))
    (l27 : K.lookup f27 = some ⟨oc27, od27, .func (PySem.W.fnOf "_law_cut" "_law_cut" (defArgs s__law_cut) (defBody s__law_cut) (defScope s__law_cut) .none kV27 dc27 pm27 an27 cd27 ct27), sl27⟩)
    (c27 : PySem.W.codeIn K cd27 "_law_cut" = true)
    (k27 : PySem.W.keepIn K (.ref f27) = true)
    (a28 : PySem.W.nsIn K mainGlobals "_law_lots" = some (some (.ref f28)))
    (l28 : K.lookup f28 = some ⟨oc28, od28, .func (PySem.W.fnOf "_law_lots" "_law_lots" (defArgs s__law_lots) (defBody s__law_lots) (defScope s__law_lots) .none kV28 dc28 pm28 an28 cd28 ct28), sl28⟩)
    (c28 : PySem.W.codeIn K cd28 "_law_lots" = true)
    (k28 : PySem.W.keepIn K (.ref f28) = true)
    (a29 : PySem.W.nsIn K mainGlobals "_law_is_fold" = some (some (.ref f29)))
    (l29 : K.lookup f29 = some ⟨oc29, od29, .func (PySem.W.fnOf "_law_is_fold" "_law_is_fold" (defArgs s__law_is_fold) (defBody s__law_is_fold) (defScope s__law_is_fold) .none kV29 dc29 pm29 an29 cd29 ct29), sl29⟩)
    (c29 : PySem.W.codeIn K cd29 "_law_is_fold" = true)
    (k29 : PySem.W.keepIn K (.ref f29) = true)
    (a30 : PySem.W.nsIn K mainGlobals "_law_small_net" = some (some (.ref f30)))
    (l30 : K.lookup f30 = some ⟨oc30, od30, .func (PySem.W.fnOf "_law_small_net" "_law_small_net" (defArgs s__law_small_net) (defBody s__law_small_net) (defScope s__law_small_net) .none kV30 dc30 pm30 an30 cd30 ct30), sl30⟩)
    (c30 : PySem.W.codeIn K cd30 "_law_small_net" = true)
    (k30 : PySem.W.keepIn K (.ref f30) = true)
    (a31 : PySem.W.nsIn K mainGlobals "_law_can" = some (some (.ref f31)))
    (l31 : K.lookup f31 = some ⟨oc31, od31, .func (PySem.W.fnOf "_law_can" "_law_can" (defArgs s__law_can) (defBody s__law_can) (defScope s__law_can) .none kV31 dc31 pm31 an31 cd31 ct31), sl31⟩)
    (c31 : PySem.W.codeIn K cd31 "_law_can" = true)
    (k31 : PySem.W.keepIn K (.ref f31) = true)
    (a32 : PySem.W.nsIn K mainGlobals "_law_right" = some (some (.ref f32)))
    (l32 : K.lookup f32 = some ⟨oc32, od32, .func (PySem.W.fnOf "_law_right" "_law_right" (defArgs s__law_right) (defBody s__law_right) (defScope s__law_right) .none kV32 dc32 pm32 an32 cd32 ct32), sl32⟩)
    (c32 : PySem.W.codeIn K cd32 "_law_right" = true)
    (k32 : PySem.W.keepIn K (.ref f32) = true)
    (a33 : PySem.W.nsIn K mainGlobals "law" = some (some (.ref f33)))
    (l33 : K.lookup f33 = some ⟨oc33, od33, .func (PySem.W.fnOf "law" "law" (defArgs s_law) (defBody s_law) (defScope s_law) .none kV33 dc33 pm33 an33 cd33 ct33), sl33⟩)
    (c33 : PySem.W.codeIn K cd33 "law" = true)
    (k33 : PySem.W.keepIn K (.ref f33) = true)
    (aC : PySem.W.nsIn K mainGlobals "Net" = some (some (.ref C)))
    (cpg : PySem.W.plainGet K C Str.empty = true)
    (chd : PySem.W.hasDictIn K C = true)
    (cpo : PySem.W.plainOver K C = true)
    (csa : PySem.W.findIn K (.ref C) "__setattr__" = some (some (.builtin "object.__setattr__")))
    (cmk : PySem.W.makesIn K C = true)
    (ckc : PySem.W.keepIn K (.ref C) = true)
    (iha : PySem.W.findIn K (.ref C) "__class__" = some (some (.builtin "object.__class__")))
    (ihn : PySem.W.specialIn K (.builtin "object.__class__") "__get__" = some (some (.builtin "getset_descriptor.__get__")))
    (itk : PySem.W.takesIn K (.builtin "object.__class__") = some true)
    (ihm : PySem.W.mroIn K C (.type "object") = some true)
    (n_places : PySem.W.findIn K (.ref C) "_places" = some none)
    (n_ties : PySem.W.findIn K (.ref C) "_ties" = some none)
    (x0 : PySem.W.findIn K (.ref C) "__init__" = some (some (.ref h0)))
    (y0 : PySem.W.isFn K (.ref h0) = true)
    (lm0 : K.lookup h0 = some ⟨ocm0, odm0, .func (PySem.W.fnOf "__init__" "Net.__init__" (C8.fnArgs sInit) (C8.fnBody sInit) (C8.fnScope sInit) (.ref T0) kVm0 dcm0 pmm0 anm0 cdm0 ctm0), slm0⟩)
    (lT0 : K.lookup T0 = some ⟨ocT, odT, .seq #[Value.none] nT, slT⟩)
    (cm0 : PySem.W.codeIn K cdm0 "Net.__init__" = true)
    (km0 : PySem.W.keepIn K (.ref h0) = true)
    (x1 : PySem.W.findIn K (.ref C) "places" = some (some (.ref p1)))
    (y1 : PySem.W.specialIn K (.ref p1) "__get__" = some (some (.builtin "property.__get__")))
    (w1 : PySem.W.takesIn K (.ref p1) = some true)
    (r1 : PySem.W.recIn K p1 "property" = some (.ref h1 :: rs1))
    (lm1 : K.lookup h1 = some ⟨ocm1, odm1, .func (PySem.W.fnOf "places" "Net.places" (defArgs s_Net_places) (defBody s_Net_places) (defScope s_Net_places) .none kVm1 dcm1 pmm1 anm1 cdm1 ctm1), slm1⟩)
    (cm1 : PySem.W.codeIn K cdm1 "Net.places" = true)
    (km1 : PySem.W.keepIn K (.ref h1) = true)
    (x2 : PySem.W.findIn K (.ref C) "ties" = some (some (.ref p2)))
    (y2 : PySem.W.specialIn K (.ref p2) "__get__" = some (some (.builtin "property.__get__")))
    (w2 : PySem.W.takesIn K (.ref p2) = some true)
    (r2 : PySem.W.recIn K p2 "property" = some (.ref h2 :: rs2))
    (lm2 : K.lookup h2 = some ⟨ocm2, odm2, .func (PySem.W.fnOf "ties" "Net.ties" (defArgs s_Net_ties) (defBody s_Net_ties) (defScope s_Net_ties) .none kVm2 dcm2 pmm2 anm2 cdm2 ctm2), slm2⟩)
    (cm2 : PySem.W.codeIn K cdm2 "Net.ties" = true)
    (km2 : PySem.W.keepIn K (.ref h2) = true)
    (x3 : PySem.W.findIn K (.ref C) "degrees" = some (some (.ref p3)))
    (y3 : PySem.W.specialIn K (.ref p3) "__get__" = some (some (.builtin "property.__get__")))
    (w3 : PySem.W.takesIn K (.ref p3) = some true)
    (r3 : PySem.W.recIn K p3 "property" = some (.ref h3 :: rs3))
    (lm3 : K.lookup h3 = some ⟨ocm3, odm3, .func (PySem.W.fnOf "degrees" "Net.degrees" (defArgs s_Net_degrees) (defBody s_Net_degrees) (defScope s_Net_degrees) .none kVm3 dcm3 pmm3 anm3 cdm3 ctm3), slm3⟩)
    (cm3 : PySem.W.codeIn K cdm3 "Net.degrees" = true)
    (km3 : PySem.W.keepIn K (.ref h3) = true)
    (x4 : PySem.W.findIn K (.ref C) "degree" = some (some (.ref h4)))
    (y4 : PySem.W.isFn K (.ref h4) = true)
    (lm4 : K.lookup h4 = some ⟨ocm4, odm4, .func (PySem.W.fnOf "degree" "Net.degree" (defArgs s_Net_degree) (defBody s_Net_degree) (defScope s_Net_degree) .none kVm4 dcm4 pmm4 anm4 cdm4 ctm4), slm4⟩)
    (cm4 : PySem.W.codeIn K cdm4 "Net.degree" = true)
    (km4 : PySem.W.keepIn K (.ref h4) = true)
    (x5 : PySem.W.findIn K (.ref C) "_check_place" = some (some (.ref h5)))
    (y5 : PySem.W.isFn K (.ref h5) = true)
    (lm5 : K.lookup h5 = some ⟨ocm5, odm5, .func (PySem.W.fnOf "_check_place" "Net._check_place" (defArgs s_Net__check_place) (defBody s_Net__check_place) (defScope s_Net__check_place) .none kVm5 dcm5 pmm5 anm5 cdm5 ctm5), slm5⟩)
    (cm5 : PySem.W.codeIn K cdm5 "Net._check_place" = true)
    (km5 : PySem.W.keepIn K (.ref h5) = true)
    (z0 : PySem.W.nsIn K mainGlobals "len" = some none)
    (z1 : PySem.W.nsIn K mainGlobals "isinstance" = some none)
    (z2 : PySem.W.nsIn K mainGlobals "str" = some none)
    (z3 : PySem.W.nsIn K mainGlobals "all" = some none)
    (z4 : PySem.W.nsIn K mainGlobals "int" = some none)
    (z5 : PySem.W.nsIn K mainGlobals "bool" = some none)
    (z6 : PySem.W.nsIn K mainGlobals "abs" = some none)
    (z7 : PySem.W.nsIn K mainGlobals "tuple" = some none)
    (z8 : PySem.W.nsIn K mainGlobals "set" = some none)
    (z9 : PySem.W.nsIn K mainGlobals "dict" = some none)
    (z10 : PySem.W.nsIn K mainGlobals "sum" = some none)
    (z11 : PySem.W.nsIn K mainGlobals "sorted" = some none)
    (z12 : PySem.W.nsIn K mainGlobals "max" = some none)
    (z13 : PySem.W.nsIn K mainGlobals "min" = some none)
    (z14 : PySem.W.nsIn K mainGlobals "list" = some none)
    (z15 : PySem.W.nsIn K mainGlobals "range" = some none)
    (z16 : PySem.W.nsIn K mainGlobals "zip" = some none)
    (z17 : PySem.W.nsIn K mainGlobals "enumerate" = some none)
    (v0 : PySem.W.nsIn K mainGlobals "MAX_LETTERS" = some (some (.int 8 t1)))
    (v1 : PySem.W.nsIn K mainGlobals "_LETTERS" = some (some (.str letters t2)))
    (v2 : PySem.W.nsIn K mainGlobals "MAX_PLACES" = some (some (.int 9 t3)))
    (v3 : PySem.W.nsIn K mainGlobals "MAX_TIES" = some (some (.int 60 t4)))
    (v4 : PySem.W.nsIn K mainGlobals "MAX_FOLD" = some (some (.int 9 t5)))
    : LamX.LawAtS l w K CX0 10 63 "script" mg fa h := by
  letI iT : Tbs := ⟨[]⟩
  have e := hfa.symm.trans (PySem.W.mg_of X G a33)
  cases e
  have F_is_integer := fun_mk (st := sIsInt) l0 c0 k0
  have b_is_integer := F_is_integer.binds (ps := ["value"]) fun _ _ _ _ _ _ us hl => match us, hl with | [_], _ => rfl
  have g_is_integer := PySem.W.mg_of X G a0
  have F_is_word := fun_mk (st := sIsWord) l1 c1 k1
  have b_is_word := F_is_word.binds (ps := ["value"]) fun _ _ _ _ _ _ us hl => match us, hl with | [_], _ => rfl
  have g_is_word := PySem.W.mg_of X G a1
  have F_is_pair := fun_mk (st := sIsPair) l2 c2 k2
  have b_is_pair := F_is_pair.binds (ps := ["value"]) fun _ _ _ _ _ _ us hl => match us, hl with | [_], _ => rfl
  have g_is_pair := PySem.W.mg_of X G a2
  have F__are_places := fun_mk (st := sArePlaces) l3 c3 k3
  have b__are_places := F__are_places.binds (ps := ["value"]) fun _ _ _ _ _ _ us hl => match us, hl with | [_], _ => rfl
  have g__are_places := PySem.W.mg_of X G a3
  have F__are_ties := fun_mk (st := sAreTies) l4 c4 k4
  have b__are_ties := F__are_ties.binds (ps := ["places", "value"]) fun _ _ _ _ _ _ us hl => match us, hl with | [_, _], _ => rfl
  have g__are_ties := PySem.W.mg_of X G a4
  have F_check_net := fun_mk (st := s_check_net) l5 c5 k5
  have b_check_net := F_check_net.binds (ps := ["value"]) fun _ _ _ _ _ _ us hl => match us, hl with | [_], _ => rfl
  have g_check_net := PySem.W.mg_of X G a5
  have F_has_place := fun_mk (st := s_has_place) l6 c6 k6
  have b_has_place := F_has_place.binds (ps := ["mask", "at"]) fun _ _ _ _ _ _ us hl => match us, hl with | [_, _], _ => rfl
  have g_has_place := PySem.W.mg_of X G a6
  have F_all_cuts := fun_mk (st := s_all_cuts) l7 c7 k7
  have b_all_cuts := F_all_cuts.binds (ps := ["net"]) fun _ _ _ _ _ _ us hl => match us, hl with | [_], _ => rfl
  have g_all_cuts := PySem.W.mg_of X G a7
  have F_all_sums := fun_mk (st := s_all_sums) l8 c8 k8
  have b_all_sums := F_all_sums.binds (ps := ["counts"]) fun _ _ _ _ _ _ us hl => match us, hl with | [_], _ => rfl
  have g_all_sums := PySem.W.mg_of X G a8
  have F_fewest_counts := fun_mk (st := s_fewest_counts) l9 c9 k9
  have b_fewest_counts := F_fewest_counts.binds (ps := ["lacks", "most", "order"]) fun _ _ _ _ _ _ us hl => match us, hl with | [_, _, _], _ => rfl
  have g_fewest_counts := PySem.W.mg_of X G a9
  have F_fewest_sum := fun_mk (st := s_fewest_sum) l10 c10 k10
  have b_fewest_sum := F_fewest_sum.binds (ps := ["lacks", "most"]) fun _ _ _ _ _ _ us hl => match us, hl with | [_, _], _ => rfl
  have g_fewest_sum := PySem.W.mg_of X G a10
  have F_check_fold := fun_mk (st := s_check_fold) l11 c11 k11
  have b_check_fold := F_check_fold.binds (ps := ["net", "fold"]) fun _ _ _ _ _ _ us hl => match us, hl with | [_, _], _ => rfl
  have g_check_fold := PySem.W.mg_of X G a11
  have F__lack_below := fun_mk (st := s__lack_below) l12 c12 k12
  have b__lack_below := F__lack_below.binds (ps := ["fold", "cut"]) fun _ _ _ _ _ _ us hl => match us, hl with | [_, _], _ => rfl
  have g__lack_below := PySem.W.mg_of X G a12
  have F_all_lacks := fun_mk (st := s_all_lacks) l13 c13 k13
  have b_all_lacks := F_all_lacks.binds (ps := ["net", "fold"]) fun _ _ _ _ _ _ us hl => match us, hl with | [_, _], _ => rfl
  have g_all_lacks := PySem.W.mg_of X G a13
  have F_fewest_ends := fun_mk (st := s_fewest_ends) l14 c14 k14
  have b_fewest_ends := F_fewest_ends.binds (ps := ["net", "fold"]) fun _ _ _ _ _ _ us hl => match us, hl with | [_, _], _ => rfl
  have g_fewest_ends := PySem.W.mg_of X G a14
  have F_half_up := fun_mk (st := s_half_up) l15 c15 k15
  have b_half_up := F_half_up.binds (ps := ["many"]) fun _ _ _ _ _ _ us hl => match us, hl with | [_], _ => rfl
  have g_half_up := PySem.W.mg_of X G a15
  have F_fewest_ties := fun_mk (st := s_fewest_ties) l16 c16 k16
  have b_fewest_ties := F_fewest_ties.binds (ps := ["net", "fold"]) fun _ _ _ _ _ _ us hl => match us, hl with | [_, _], _ => rfl
  have g_fewest_ties := PySem.W.mg_of X G a16
  have F__law_dice := fun_mk (st := sDice) l17 c17 k17
  have b__law_dice := F__law_dice.binds (ps := ["script", "spot"]) fun _ _ _ _ _ _ us hl => match us, hl with | [_, _], _ => rfl
  have g__law_dice := PySem.W.mg_of X G a17
  have F__law_roll := fun_mk (st := sRoll) l18 c18 k18
  have b__law_roll := F__law_roll.binds (ps := ["dice", "total"]) fun _ _ _ _ _ _ us hl => match us, hl with | [_, _], _ => rfl
  have g__law_roll := PySem.W.mg_of X G a18
  have F__law_pick := fun_mk (st := sPick) l19 c19 k19
  have b__law_pick := F__law_pick.binds (ps := ["dice", "items"]) fun _ _ _ _ _ _ us hl => match us, hl with | [_, _], _ => rfl
  have g__law_pick := PySem.W.mg_of X G a19
  have F__law_some := fun_mk (st := sSome) l20 c20 k20
  have b__law_some := F__law_some.binds (ps := ["dice", "items", "size"]) fun _ _ _ _ _ _ us hl => match us, hl with | [_, _, _], _ => rfl
  have g__law_some := PySem.W.mg_of X G a20
  have F__law_pair := fun_mk (st := sPairL) l21 c21 k21
  have b__law_pair := F__law_pair.binds (ps := ["one", "other"]) fun _ _ _ _ _ _ us hl => match us, hl with | [_, _], _ => rfl
  have g__law_pair := PySem.W.mg_of X G a21
  have F__law_pairs := fun_mk (st := sPairsL) l22 c22 k22
  have b__law_pairs := F__law_pairs.binds (ps := ["places"]) fun _ _ _ _ _ _ us hl => match us, hl with | [_], _ => rfl
  have g__law_pairs := PySem.W.mg_of X G a22
  have F__law_with := fun_mk (st := sWith) l23 c23 k23
  have b__law_with := F__law_with.binds (ps := ["net", "pair", "more"]) fun _ _ _ _ _ _ us hl => match us, hl with | [_, _, _], _ => rfl
  have g__law_with := PySem.W.mg_of X G a23
  have F__law_net := fun_mk (st := sNetL) l24 c24 k24
  have b__law_net := F__law_net.binds (ps := ["dice"]) fun _ _ _ _ _ _ us hl => match us, hl with | [_], _ => rfl
  have g__law_net := PySem.W.mg_of X G a24
  have F__law_known_net := fun_mk (st := sKnown) l25 c25 k25
  have b__law_known_net := F__law_known_net.binds (ps := ["dice"]) fun _ _ _ _ _ _ us hl => match us, hl with | [_], _ => rfl
  have g__law_known_net := PySem.W.mg_of X G a25
  have F__law_made := fun_mk (st := s__law_made) l26 c26 k26
  have b__law_made := F__law_made.binds (ps := ["net"]) fun _ _ _ _ _ _ us hl => match us, hl with | [_], _ => rfl
  have g__law_made := PySem.W.mg_of X G a26
  have F__law_cut := fun_mk (st := s__law_cut) l27 c27 k27
  have b__law_cut := F__law_cut.binds (ps := ["net", "lot"]) fun _ _ _ _ _ _ us hl => match us, hl with | [_, _], _ => rfl
  have g__law_cut := PySem.W.mg_of X G a27
  have F__law_lots := fun_mk (st := s__law_lots) l28 c28 k28
  have b__law_lots := F__law_lots.binds (ps := ["net"]) fun _ _ _ _ _ _ us hl => match us, hl with | [_], _ => rfl
  have g__law_lots := PySem.W.mg_of X G a28
  have F__law_is_fold := fun_mk (st := s__law_is_fold) l29 c29 k29
  have b__law_is_fold := F__law_is_fold.binds (ps := ["net", "fold"]) fun _ _ _ _ _ _ us hl => match us, hl with | [_, _], _ => rfl
  have g__law_is_fold := PySem.W.mg_of X G a29
  have F__law_small_net := fun_mk (st := s__law_small_net) l30 c30 k30
  have b__law_small_net := F__law_small_net.binds (ps := ["dice"]) fun _ _ _ _ _ _ us hl => match us, hl with | [_], _ => rfl
  have g__law_small_net := PySem.W.mg_of X G a30
  have F__law_can := fun_mk (st := s__law_can) l31 c31 k31
  have b__law_can := F__law_can.binds (ps := ["net", "fold", "left"]) fun _ _ _ _ _ _ us hl => match us, hl with | [_, _, _], _ => rfl
  have g__law_can := PySem.W.mg_of X G a31
  have F__law_right := fun_mk (st := s__law_right) l32 c32 k32
  have b__law_right := F__law_right.binds (ps := ["dice"]) fun _ _ _ _ _ _ us hl => match us, hl with | [_], _ => rfl
  have g__law_right := PySem.W.mg_of X G a32
  have F_law := fun_mk (st := s_law) l33 c33 k33
  have n_len := PySem.W.mg_none_of X G z0
  have n_isinstance := PySem.W.mg_none_of X G z1
  have n_str := PySem.W.mg_none_of X G z2
  have n_all := PySem.W.mg_none_of X G z3
  have n_int := PySem.W.mg_none_of X G z4
  have n_bool := PySem.W.mg_none_of X G z5
  have n_abs := PySem.W.mg_none_of X G z6
  have n_tuple := PySem.W.mg_none_of X G z7
  have n_set := PySem.W.mg_none_of X G z8
  have n_dict := PySem.W.mg_none_of X G z9
  have n_sum := PySem.W.mg_none_of X G z10
  have n_sorted := PySem.W.mg_none_of X G z11
  have n_max := PySem.W.mg_none_of X G z12
  have n_min := PySem.W.mg_none_of X G z13
  have n_list := PySem.W.mg_none_of X G z14
  have n_range := PySem.W.mg_none_of X G z15
  have n_zip := PySem.W.mg_none_of X G z16
  have n_enumerate := PySem.W.mg_none_of X G z17
  have gM := PySem.W.mg_of X G v0
  have gL := PySem.W.mg_of X G v1
  have gP := PySem.W.mg_of X G v2
  have gT := PySem.W.mg_of X G v3
  have gF := PySem.W.mg_of X G v4
  have m_Net := PySem.W.mg_of X G aC
  have c0 : Cls K C := ⟨cpg, chd, cpo, csa⟩
  have cI : C8.InsC K C := ⟨c0, iha, ihn, itk, ihm, if_pos (beq_self_eq_true _)⟩
  have F__init : C8.Fun K "__init__" "Net.__init__" sInit h0 _ := ⟨⟨_, _, _, _, _, _, _, _, _, _, rfl, lm0, cm0⟩⟩
  have FD__init : FunD K "__init__" "Net.__init__" (C8.fnArgs sInit) (C8.fnBody sInit) (C8.fnScope sInit) [.non] [] h0 _ := ⟨⟨_, _, _, _, _, _, _, _, _, _, rfl, lm0, cm0, .inr ⟨by simp, T0, _, [Value.none], _, rfl, lT0, rfl, .cons rfl .nil⟩, .inl rfl⟩, km0⟩
  have b__init : Binds K (PySem.W.fnOf "__init__" "Net.__init__" (C8.fnArgs sInit) (C8.fnBody sInit) (C8.fnScope sInit) (.ref T0) kVm0 dcm0 pmm0 anm0 cdm0 ctm0) ["self", "places", "ties"] [] := by
    obtain ⟨ds, hv, hb⟩ := FD__init.binds1 (ps := ["self", "places", "ties"]) 3 1 (by simp) rfl (fun T kV doc pm an cdv ct us its hu hi => match us, hu, its, hi with | [_, _, _], _, [_], _ => ⟨_, rfl, rfl⟩)
    cases hv
    exact hb
  have b__init0 : Binds K (PySem.W.fnOf "__init__" "Net.__init__" (C8.fnArgs sInit) (C8.fnBody sInit) (C8.fnScope sInit) (.ref T0) kVm0 dcm0 pmm0 anm0 cdm0 ctm0) ["self", "places", "ties"] [Value.none] := by
    obtain ⟨ds, hv, hb⟩ := FD__init.binds1 (ps := ["self", "places", "ties"]) 2 0 (by simp) rfl (fun T kV doc pm an cdv ct us its hu hi => match us, hu, its, hi with | [_, _], _, [_], _ => ⟨_, rfl, rfl⟩)
    cases hv with
    | cons a b => cases a; cases b; exact hb
  have mk_Net : Mk K C h0 := ⟨cmk, x0, y0, ckc⟩
  have M_places := fun_mk (st := s_Net_places) lm1 cm1 km1
  have bm_places := M_places.binds (ps := ["self"]) fun _ _ _ _ _ _ us hl => match us, hl with | [_], _ => rfl
  have po_places : PropOf K C "places" p1 h1 := ⟨x1, y1, w1, ⟨_, r1⟩⟩
  have M_ties := fun_mk (st := s_Net_ties) lm2 cm2 km2
  have bm_ties := M_ties.binds (ps := ["self"]) fun _ _ _ _ _ _ us hl => match us, hl with | [_], _ => rfl
  have po_ties : PropOf K C "ties" p2 h2 := ⟨x2, y2, w2, ⟨_, r2⟩⟩
  have M_degrees := fun_mk (st := s_Net_degrees) lm3 cm3 km3
  have bm_degrees := M_degrees.binds (ps := ["self"]) fun _ _ _ _ _ _ us hl => match us, hl with | [_], _ => rfl
  have po_degrees : PropOf K C "degrees" p3 h3 := ⟨x3, y3, w3, ⟨_, r3⟩⟩
  have M_degree := fun_mk (st := s_Net_degree) lm4 cm4 km4
  have bm_degree := M_degree.binds (ps := ["self", "place"]) fun _ _ _ _ _ _ us hl => match us, hl with | [_, _], _ => rfl
  have me_degree : Meth K C "degree" h4 := ⟨x4, y4, km4⟩
  have M__check_place := fun_mk (st := s_Net__check_place) lm5 cm5 km5
  have bm__check_place := M__check_place.binds (ps := ["self", "place"]) fun _ _ _ _ _ _ us hl => match us, hl with | [_, _], _ => rfl
  have me__check_place : Meth K C "_check_place" h5 := ⟨x5, y5, km5⟩
  refine ⟨PySem.W.fnOf "law" "law" (defArgs s_law) (defBody s_law) (defScope s_law) .none kV33 dc33 pm33 an33 cd33 ct33, [], spLaw K, fun _ hp => (nomatch hp), fun _ hp => (nomatch hp), fun _ hp => (nomatch hp), fun s v => .of_eq rfl,
    fun H a ns hl _ hT hS => ⟨a, ns, rfl, fun p hp => (nomatch (show p ∈ ([] : List (Addr × Str)) from hp)), hS, hl, fun _ => rfl⟩, fun base _ _ hTB => ?_⟩
  have Mt__check_place : DMt l.prog w K mg base 1 C "_check_place" [] (spCheckPlace C) := .of mo_check_place (ok_Net__check_place M__check_place c0 n_places) c0 me__check_place bm__check_place
  have Pr_places : DPr l.prog w K mg base 1 C "places" (spPlaces C) := .of mo_places (ok_Net_places M_places c0 n_places) c0 po_places bm_places
  have Pr_ties : DPr l.prog w K mg base 1 C "ties" (spTies C) := .of mo_ties (ok_Net_ties M_ties c0 n_ties) c0 po_ties bm_ties
  have Mt_degree : DMt l.prog w K mg base 2 C "degree" [] (spDegree C) := .of mo_degree (ok_Net_degree M_degree c0 n_ties n_sum Mt__check_place) c0 me_degree bm_degree
  have Pr_degrees : DPr l.prog w K mg base 3 C "degrees" (spDegrees C) := .of mo_degrees (ok_Net_degrees M_degrees c0 n_places Mt_degree) c0 po_degrees bm_degrees
  have G_check_net : DFn l.prog w K mg base 1 "check_net" [] (spCheckNet C) := .of mo_check_net (ok_check_net F_check_net cI n_isinstance m_Net) g_check_net F_check_net.kp b_check_net
  have OW : ∀ k, FnOk l.prog w K mg base CX0 (k + 1) _ _ ["value"] (spWord K) := fun k => ok_word F_is_word n_len n_isinstance n_str n_all gM gL
  have OI : ∀ k, FnOk l.prog w K mg base CX0 (k + 1) _ _ ["value"] spInt := fun k => ok_int F_is_integer n_isinstance n_int n_bool n_abs
  have OP : ∀ k, FnOk l.prog w K mg base CX0 (k + 2) _ _ ["value"] spPair := fun k => ok_pair F_is_pair (OW k) F_is_word.kp b_is_word g_is_word n_len n_isinstance n_tuple
  have OA := ok_arePl (base := base) (P := l.prog) (w := w) F__are_places (OW 1) F_is_word.kp b_is_word g_is_word n_len n_isinstance n_tuple n_all n_set gP
  have OT := ok_areTi (k := 1) (base := base) (P := l.prog) (w := w) F__are_ties (OP 0) F_is_pair.kp b_is_pair g_is_pair (OI 1) F_is_integer.kp b_is_integer g_is_integer n_isinstance n_dict n_all n_sum gT
  have OInit := ok_init (k := 0) (base := base) (P := l.prog) (w := w) F__init c0 n_places n_ties OA F__are_places.kp b__are_places g__are_places OT F__are_ties.kp b__are_ties g__are_ties n_sorted n_tuple
  have OR : ∀ k, FnOk l.prog w K mg base CX0 (k + 1) _ _ ["dice", "total"] spRoll := fun k => ok_roll F__law_roll n_int
  have OPk : ∀ k, FnOk l.prog w K mg base CX0 (k + 2) _ _ ["dice", "items"] spPick := fun k => ok_pick (k := k + 1) F__law_pick (OR k) F__law_roll.kp b__law_roll g__law_roll n_len
  have OS : ∀ k, FnOk l.prog w K mg base CX0 (k + 2) _ _ ["dice", "items", "size"] (spSome K) := fun k => ok_some (k := k + 1) F__law_some (OR k) F__law_roll.kp b__law_roll g__law_roll n_len n_list n_range n_min
  have OPL : ∀ k, FnOk l.prog w K mg base CX0 (k + 1) _ _ ["one", "other"] spPairL := fun k => ok_pairL F__law_pair
  have OPS : ∀ k, FnOk l.prog w K mg base CX0 (k + 1) _ _ ["places"] (spPairsL K) := fun k => ok_pairsL F__law_pairs
  have OWi : ∀ k, FnOk l.prog w K mg base CX0 (k + 1) _ _ ["net", "pair", "more"] spWith := fun k => ok_with F__law_with n_list n_dict
  have OK1 : FnOk l.prog w K mg base CX0 3 _ _ ["dice"] spNet := ok_known (k := 1) F__law_known_net (OPL 1) F__law_pair.kp b__law_pair g__law_pair (OPS 1) F__law_pairs.kp b__law_pairs g__law_pairs (OPk 0) F__law_pick.kp b__law_pick g__law_pick n_list n_dict n_range
  have ON : FnOk l.prog w K mg base CX0 4 _ _ ["dice"] spNet := ok_net (k := 1) F__law_net (OR 2) F__law_roll.kp b__law_roll g__law_roll (OPL 2) F__law_pair.kp b__law_pair g__law_pair (OPS 2) F__law_pairs.kp b__law_pairs g__law_pairs (OPk 1) F__law_pick.kp b__law_pick g__law_pick (OS 1) F__law_some.kp b__law_some g__law_some (OWi 2) F__law_with.kp b__law_with g__law_with OK1 F__law_known_net.kp b__law_known_net g__law_known_net n_sorted n_range n_len
  have G_is_integer : DFn l.prog w K mg base 1 "is_integer" [] spIntD := .of mo_intD ((OI 0).imp int_imp) g_is_integer F_is_integer.kp b_is_integer
  have G_has_place : DFn l.prog w K mg base 1 "has_place" [] spHasPlace := .of mo_has_place (ok_has_place F_has_place) g_has_place F_has_place.kp b_has_place
  have G_all_cuts : DFn l.prog w K mg base 5 "all_cuts" [] (spAllCuts C) := .of mo_all_cuts (ok_all_cuts (k := 3) F_all_cuts n_enumerate n_zip (Pr_places.up (by decide)) (Pr_ties.up (by decide)) Pr_degrees) g_all_cuts F_all_cuts.kp b_all_cuts
  have G_all_sums : DFn l.prog w K mg base 1 "all_sums" [] O61.spAllSums := .of mo_allSums (O61.ok_all_sums F_all_sums) g_all_sums F_all_sums.kp b_all_sums
  have G_fewest_counts : DFn l.prog w K mg base 2 "fewest_counts" [] O61.spFewCounts := .of mo_fewCounts (O61.ok_fewest_counts F_fewest_counts n_max n_len n_range G_all_sums G_has_place) g_fewest_counts F_fewest_counts.kp b_fewest_counts
  have G_fewest_sum : DFn l.prog w K mg base 3 "fewest_sum" [] O61.spFewSum := .of mo_fewSum (O61.ok_fewest_sum F_fewest_sum n_sum n_list n_range n_len G_fewest_counts) g_fewest_sum F_fewest_sum.kp b_fewest_sum
  have G_check_fold : DFn l.prog w K mg base 2 "check_fold" [] (O61.spCheckFold C) := .of mo_checkFold (O61.ok_check_fold F_check_fold gF G_check_net G_is_integer) g_check_fold F_check_fold.kp b_check_fold
  have G__lack_below : DFn l.prog w K mg base 1 "_lack_below" [] O61.spLackBelow := .of mo_lackBelow (O61.ok__lack_below F__lack_below n_max) g__lack_below F__lack_below.kp b__lack_below
  have G_all_lacks : DFn l.prog w K mg base 6 "all_lacks" [] (O61.spAllLacks C) := .of mo_allLacks (O61.ok_all_lacks F_all_lacks G_all_cuts (G__lack_below.up (by decide))) g_all_lacks F_all_lacks.kp b_all_lacks
  have G_fewest_ends : DFn l.prog w K mg base 7 "fewest_ends" [] (O61.spFewEnds C) := .of mo_fewEnds (O61.ok_fewest_ends F_fewest_ends (G_check_fold.up (by decide)) (G_fewest_sum.up (by decide)) G_all_lacks) g_fewest_ends F_fewest_ends.kp b_fewest_ends
  have G_half_up : DFn l.prog w K mg base 1 "half_up" [] O61.spHalfUp := .of mo_halfUp (O61.ok_half_up F_half_up) g_half_up F_half_up.kp b_half_up
  have G_fewest_ties : DFn l.prog w K mg base 8 "fewest_ties" [] (O61.spFewTies C) := .of mo_fewTies (O61.ok_fewest_ties F_fewest_ties (G_half_up.up (by decide)) G_fewest_ends) g_fewest_ties F_fewest_ties.kp b_fewest_ties
  have G__law_net : DFn l.prog w K mg base 4 "_law_net" [] spNetD := .of mo_net (ON.imp net_imp) g__law_net F__law_net.kp b__law_net
  have G__law_made : DFn l.prog w K mg base 6 "_law_made" [] (spLawMade C) := .of mo_made (ok__law_made (k := 4) F__law_made mk_Net OInit m_Net b__init n_dict n_list n_tuple) g__law_made F__law_made.kp b__law_made
  have G__law_roll : DFn l.prog w K mg base 1 "_law_roll" [] spRollD := .of mo_roll ((OR 0).imp roll_imp) g__law_roll F__law_roll.kp b__law_roll
  have G__law_lots : DFn l.prog w K mg base 1 "_law_lots" [] spLawLots := .of mo_law_lots (ok__law_lots F__law_lots n_len n_sorted) g__law_lots F__law_lots.kp b__law_lots
  have G__law_cut : DFn l.prog w K mg base 1 "_law_cut" [] spLawCut := .of mo_law_cut (ok__law_cut F__law_cut n_sum) g__law_cut F__law_cut.kp b__law_cut
  have G__law_pairs : DFn l.prog w K mg base 1 "_law_pairs" [] O30.spLawPairs := .of mo_lawPairs (O30.ok__law_pairs F__law_pairs) g__law_pairs F__law_pairs.kp b__law_pairs
  have G__law_with : DFn l.prog w K mg base 1 "_law_with" [] O30.spWithD := .of mo_withD (O30.ok__law_with F__law_with n_dict n_list) g__law_with F__law_with.kp b__law_with
  have G__law_some : DFn l.prog w K mg base 2 "_law_some" [] O12.spSomeD := .of mo_someD ((OS 0).imp O12.some_imp) g__law_some F__law_some.kp b__law_some
  have G2__law_some : DFn l.prog w K mg base 2 "_law_some" [] spSomeDD := .of mo_someDD ((OS 0).imp someD_imp) g__law_some F__law_some.kp b__law_some
  have G__law_is_fold : DFn l.prog w K mg base 2 "_law_is_fold" [] O61.spLawIsFold := .of mo_isFold (O61.ok__law_is_fold F__law_is_fold G__law_lots G__law_cut) g__law_is_fold F__law_is_fold.kp b__law_is_fold
  have G__law_small_net : DFn l.prog w K mg base 5 "_law_small_net" [] O61.spSmall := .of mo_small (O61.ok__law_small_net F__law_small_net n_sorted n_dict G__law_net (G__law_some.up (by decide)) (G__law_roll.up (by decide))) g__law_small_net F__law_small_net.kp b__law_small_net
  have G0__law_can : DFn l.prog w K mg base 2 "_law_can" [] (fun _ _ => False) := .of mo_false (can_none (k := 1) F__law_can) g__law_can F__law_can.kp b__law_can
  have C0__law_can : DFn l.prog w K mg base 3 "_law_can" [] (O61.spCan 0) := .of mo_can (O61.ok__law_can F__law_can (fun _ _ _ _ _ h => absurd h (Nat.not_lt_zero _)) (G__law_is_fold.up (by decide)) (G__law_pairs.up (by decide)) (G__law_with.up (by decide)) G0__law_can) g__law_can F__law_can.kp b__law_can
  have C1__law_can : DFn l.prog w K mg base 4 "_law_can" [] (O61.spCan 1) := .of mo_can (O61.ok__law_can F__law_can (fun ps ts k j Q h ok q => ⟨ps, ts, k, j, rfl, Nat.le_of_lt_succ h, ok, q⟩) (G__law_is_fold.up (by decide)) (G__law_pairs.up (by decide)) (G__law_with.up (by decide)) C0__law_can) g__law_can F__law_can.kp b__law_can
  have C2__law_can : DFn l.prog w K mg base 5 "_law_can" [] (O61.spCan 2) := .of mo_can (O61.ok__law_can F__law_can (fun ps ts k j Q h ok q => ⟨ps, ts, k, j, rfl, Nat.le_of_lt_succ h, ok, q⟩) (G__law_is_fold.up (by decide)) (G__law_pairs.up (by decide)) (G__law_with.up (by decide)) C1__law_can) g__law_can F__law_can.kp b__law_can
  have G__law_right : DFn l.prog w K mg base 9 "_law_right" [] O61.spLawRight := .of mo_right (O61.ok__law_right (C := C) F__law_right n_min n_max (G__law_small_net.up (by decide)) (G__law_roll.up (by decide)) (G__law_made.up (by decide)) G_fewest_ties (C2__law_can.up (by decide)) (G2__law_some.up (by decide)) (G__law_pairs.up (by decide)) (G__law_with.up (by decide))) g__law_right F__law_right.kp b__law_right
  exact O61.ok_law (k := 8) F_law (ok_dice (k := 8) F__law_dice n_len n_int n_abs n_max) F__law_dice.kp b__law_dice g__law_dice G__law_right n_len n_range n_min n_max
end KP
/-! Names that the tactic of the head would give to twins of its heaps and trees. Taken already, so it goes on without these twins: the same check by the kernel, a compiled file of a third of the size. -/
def PySem.W.Fast.tw15772241712361833876 : Nat := 0
def PySem.W.Fast.tw6837374625756105663 : Nat := 0
def PySem.W.Fast.tw14454433851459147012 : Nat := 0
def PySem.W.Fast.tw1244131425369138346 : Nat := 0
def PySem.W.Fast.tw1843459765561348595 : Nat := 0
def PySem.W.Fast.tw9129307308339850572 : Nat := 0
def PySem.W.Fast.tw1297688317868999086 : Nat := 0
def PySem.W.Fast.tw15691799798500133714 : Nat := 0
def PySem.W.Fast.tw1521022820203584887 : Nat := 0
def PySem.W.Fast.tw9595126063668614584 : Nat := 0
def PySem.W.Fast.tw3595760157334411707 : Nat := 0
def PySem.W.Fast.tw14067615125277216087 : Nat := 0
def PySem.W.Fast.tw2595961952793916303 : Nat := 0
def PySem.W.Fast.tw15985324299306428640 : Nat := 0
def PySem.W.Fast.tw15811099596230355249 : Nat := 0
def PySem.W.Fast.tw12788219453235979805 : Nat := 0
def PySem.W.Fast.tw6130821665915954230 : Nat := 0
def PySem.W.Fast.tw16685949623497566455 : Nat := 0
def PySem.W.Fast.tw709445813188017909 : Nat := 0
open PySem PySem.W PyProof.Rows
set_option maxHeartbeats 0 in
theorem PySem.Challenge.cw_keptways_k61_whole_fewest_ties_by_force_holds : PySem.Challenge.rw_keptways_k61_whole_fewest_ties_by_force.Holds := by
  w_on; o_law; k_head; (case hw => w_witness2)
  k_fill
  refine LamX.walk_ofTs (l := PySem.Challenge.rw_keptways_k61_whole_fewest_ties_by_force) (n := 63) (k := 10) (x := "script") (CX := fun _ => L2.CX0) rfl (by decide) rfl ⟨rfl, by decide, by decide⟩ (fun w h Y => PySem.W.kIn_of Y) ?F (fun _ _ _ _ _ h => h)
  case F =>
    intro w mg fa h Y KX G hmg
    refine' KP.all_mk KX G hmg ?a0 ?l0 ?c0 ?k0 ?a1 ?l1 ?c1 ?k1 ?a2 ?l2 ?c2 ?k2 ?a3 ?l3 ?c3 ?k3 ?a4 ?l4 ?c4 ?k4 ?a5 ?l5 ?c5 ?k5 ?a6 ?l6 ?c6 ?k6 ?a7 ?l7 ?c7 ?k7 ?a8 ?l8 ?c8 ?k8 ?a9 ?l9 ?c9 ?k9 ?a10 ?l10 ?c10 ?k10 ?a11 ?l11 ?c11 ?k11 ?a12 ?l12 ?c12 ?k12 ?a13 ?l13 ?c13 ?k13 ?a14 ?l14 ?c14 ?k14 ?a15 ?l15 ?c15 ?k15 ?a16 ?l16 ?c16 ?k16 ?a17 ?l17 ?c17 ?k17 ?a18 ?l18 ?c18 ?k18 ?a19 ?l19 ?c19 ?k19 ?a20 ?l20 ?c20 ?k20 ?a21 ?l21 ?c21 ?k21 ?a22 ?l22 ?c22 ?k22 ?a23 ?l23 ?c23 ?k23 ?a24 ?l24 ?c24 ?k24 ?a25 ?l25 ?c25 ?k25 ?a26 ?l26 ?c26 ?k26 ?a27 ?l27 ?c27 ?k27 ?a28 ?l28 ?c28 ?k28 ?a29 ?l29 ?c29 ?k29 ?a30 ?l30 ?c30 ?k30 ?a31 ?l31 ?c31 ?k31 ?a32 ?l32 ?c32 ?k32 ?a33 ?l33 ?c33 ?k33 ?aC ?cpg ?chd ?cpo ?csa ?cmk ?ckc ?iha ?ihn ?itk ?ihm ?n_places ?n_ties ?x0 ?y0 ?lm0 ?lT0 ?cm0 ?km0 ?x1 ?y1 ?w1 ?r1 ?lm1 ?cm1 ?km1 ?x2 ?y2 ?w2 ?r2 ?lm2 ?cm2 ?km2 ?x3 ?y3 ?w3 ?r3 ?lm3 ?cm3 ?km3 ?x4 ?y4 ?lm4 ?cm4 ?km4 ?x5 ?y5 ?lm5 ?cm5 ?km5 ?z0 ?z1 ?z2 ?z3 ?z4 ?z5 ?z6 ?z7 ?z8 ?z9 ?z10 ?z11 ?z12 ?z13 ?z14 ?z15 ?z16 ?z17 ?v0 ?v1 ?v2 ?v3 ?v4
    (case a0 => k_is); (case l0 => k_is); (case c0 => k_is); (case k0 => k_is); (case a1 => k_is); (case l1 => k_is); (case c1 => k_is); (case k1 => k_is); (case a2 => k_is); (case l2 => k_is); (case c2 => k_is); (case k2 => k_is); (case a3 => k_is); (case l3 => k_is); (case c3 => k_is); (case k3 => k_is); (case a4 => k_is); (case l4 => k_is); (case c4 => k_is); (case k4 => k_is); (case a5 => k_is); (case l5 => k_is); (case c5 => k_is); (case k5 => k_is); (case a6 => k_is); (case l6 => k_is); (case c6 => k_is); (case k6 => k_is); (case a7 => k_is); (case l7 => k_is); (case c7 => k_is); (case k7 => k_is); (case a8 => k_is); (case l8 => k_is); (case c8 => k_is); (case k8 => k_is); (case a9 => k_is); (case l9 => k_is); (case c9 => k_is); (case k9 => k_is); (case a10 => k_is); (case l10 => k_is); (case c10 => k_is); (case k10 => k_is); (case a11 => k_is); (case l11 => k_is); (case c11 => k_is); (case k11 => k_is); (case a12 => k_is); (case l12 => k_is); (case c12 => k_is); (case k12 => k_is); (case a13 => k_is); (case l13 => k_is); (case c13 => k_is); (case k13 => k_is); (case a14 => k_is); (case l14 => k_is); (case c14 => k_is); (case k14 => k_is); (case a15 => k_is); (case l15 => k_is); (case c15 => k_is); (case k15 => k_is); (case a16 => k_is); (case l16 => k_is); (case c16 => k_is); (case k16 => k_is); (case a17 => k_is); (case l17 => k_is); (case c17 => k_is); (case k17 => k_is); (case a18 => k_is); (case l18 => k_is); (case c18 => k_is); (case k18 => k_is); (case a19 => k_is); (case l19 => k_is); (case c19 => k_is); (case k19 => k_is); (case a20 => k_is); (case l20 => k_is); (case c20 => k_is); (case k20 => k_is); (case a21 => k_is); (case l21 => k_is); (case c21 => k_is); (case k21 => k_is); (case a22 => k_is); (case l22 => k_is); (case c22 => k_is); (case k22 => k_is); (case a23 => k_is); (case l23 => k_is); (case c23 => k_is); (case k23 => k_is); (case a24 => k_is); (case l24 => k_is); (case c24 => k_is); (case k24 => k_is); (case a25 => k_is); (case l25 => k_is); (case c25 => k_is); (case k25 => k_is); (case a26 => k_is); (case l26 => k_is); (case c26 => k_is); (case k26 => k_is); (case a27 => k_is); (case l27 => k_is); (case c27 => k_is); (case k27 => k_is); (case a28 => k_is); (case l28 => k_is); (case c28 => k_is); (case k28 => k_is); (case a29 => k_is); (case l29 => k_is); (case c29 => k_is); (case k29 => k_is); (case a30 => k_is); (case l30 => k_is); (case c30 => k_is); (case k30 => k_is); (case a31 => k_is); (case l31 => k_is); (case c31 => k_is); (case k31 => k_is); (case a32 => k_is); (case l32 => k_is); (case c32 => k_is); (case k32 => k_is); (case a33 => k_is); (case l33 => k_is); (case c33 => k_is); (case k33 => k_is); (case aC => k_is); (case cpg => k_is); (case chd => k_is); (case cpo => k_is); (case csa => k_is); (case cmk => k_is); (case ckc => k_is); (case iha => k_is); (case ihn => k_is); (case itk => k_is); (case ihm => k_is); (case n_places => k_is); (case n_ties => k_is); (case x0 => k_is); (case y0 => k_is); (case lm0 => k_is); (case lT0 => k_is); (case cm0 => k_is); (case km0 => k_is); (case x1 => k_is); (case y1 => k_is); (case w1 => k_is); (case r1 => k_is); (case lm1 => k_is); (case cm1 => k_is); (case km1 => k_is); (case x2 => k_is); (case y2 => k_is); (case w2 => k_is); (case r2 => k_is); (case lm2 => k_is); (case cm2 => k_is); (case km2 => k_is); (case x3 => k_is); (case y3 => k_is); (case w3 => k_is); (case r3 => k_is); (case lm3 => k_is); (case cm3 => k_is); (case km3 => k_is); (case x4 => k_is); (case y4 => k_is); (case lm4 => k_is); (case cm4 => k_is); (case km4 => k_is); (case x5 => k_is); (case y5 => k_is); (case lm5 => k_is); (case cm5 => k_is); (case km5 => k_is); (case z0 => k_is); (case z1 => k_is); (case z2 => k_is); (case z3 => k_is); (case z4 => k_is); (case z5 => k_is); (case z6 => k_is); (case z7 => k_is); (case z8 => k_is); (case z9 => k_is); (case z10 => k_is); (case z11 => k_is); (case z12 => k_is); (case z13 => k_is); (case z14 => k_is); (case z15 => k_is); (case z16 => k_is); (case z17 => k_is); (case v0 => k_is); (case v1 => k_is); (case v2 => k_is); (case v3 => k_is); (case v4 => k_is)
