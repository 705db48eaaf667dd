/- Trace. -/
import Derived.Test.YtpindjknngcccaaFc3
namespace Go.Proofs.Ytpindjknngcccaa
open Go.RowKit
set_option linter.unusedSimpArgs false
set_option linter.unusedVariables false


/-- S are the keys of g. -/
def KeysD (g : D → Option D) (S : List D) : Prop := S.Nodup ∧ (∀ d ∈ S, wfD d) ∧ ∀ x, wfD x → (x ∈ S ↔ (g x).isSome = true)
theorem MapD.keysD {w : World} {b n : Nat} {g : D → Option D} {S : List D} (h : MapD w b n (opV g) S) : KeysD g S :=
  ⟨h.nd, h.wf, fun x hx => by rw [h.keys hx]; unfold opV; simp⟩
theorem nxR_some {P : D → Prop} (R : List D) (hR : ∀ d ∈ R, P d) : ∀ k (f : D → Option D), k ≤ R.length → (∀ d e, f d = some e → P e) → ∀ d e, nxR R k f d = some e → P e
  | 0, f, _, hf => hf
  | k + 1, f, hk, hf => fun d e he => by
    unfold nxR at he
    split at he
    · obtain rfl := Option.some.inj he
      have hl : (k + 1) % R.length < R.length := Nat.mod_lt _ (by omega)
      rw [List.getD_eq_getElem?_getD, List.getElem?_eq_getElem hl]
      exact hR _ (List.getElem_mem hl)
    · exact nxR_some R hR k f (by omega) hf d e he
theorem nxV_some {P : D → Prop} : ∀ (L : List VC) (f : D → Option D), (∀ v ∈ L, ∀ d ∈ v.2.1.2.2.2, P d) → (∀ d e, f d = some e → P e) → ∀ d e, nxV L f d = some e → P e
  | [], f, _, hf => hf
  | v :: r, f, hL, hf => nxV_some r _ (fun u hu => hL u (List.mem_cons_of_mem _ hu)) (nxR_some _ (hL v (List.mem_cons_self ..)) _ _ (Nat.le_refl _) hf)
theorem sigM_some {P : D → Prop} {Vs : List VC} (h : ∀ v ∈ Vs, ∀ d ∈ v.2.1.2.2.2, P d) : ∀ d e, sigM Vs d = some e → P e := nxV_some Vs _ h (fun _ _ q => by cases q)
theorem nxR_key {P : D → Prop} (R : List D) (hR : ∀ d ∈ R, P d) : ∀ k (f : D → Option D), k ≤ R.length → (∀ d, (f d).isSome = true → P d) → ∀ d, (nxR R k f d).isSome = true → P d
  | 0, f, _, hf => hf
  | k + 1, f, hk, hf => fun d he => by
    unfold nxR at he
    split at he
    · rename_i e
      have hl : k < R.length := by omega
      rw [e, List.getD_eq_getElem?_getD, List.getElem?_eq_getElem hl]
      exact hR _ (List.getElem_mem hl)
    · exact nxR_key R hR k f (by omega) hf d he
theorem nxV_key {P : D → Prop} : ∀ (L : List VC) (f : D → Option D), (∀ v ∈ L, ∀ d ∈ v.2.1.2.2.2, P d) → (∀ d, (f d).isSome = true → P d) → ∀ d, (nxV L f d).isSome = true → P d
  | [], f, _, hf => hf
  | v :: r, f, hL, hf => nxV_key r _ (fun u hu => hL u (List.mem_cons_of_mem _ hu)) (nxR_key _ (hL v (List.mem_cons_self ..)) _ _ (Nat.le_refl _) hf)
theorem sigM_key {P : D → Prop} {Vs : List VC} (h : ∀ v ∈ Vs, ∀ d ∈ v.2.1.2.2.2, P d) : ∀ d, (sigM Vs d).isSome = true → P d := nxV_key Vs _ h (fun _ q => by cases q)
end Go.Proofs.Ytpindjknngcccaa
