package repo

// The kinds of commands; first those by somebody.
const (
	kindBackup = 1 + iota
	kindList
	kindRestore
	kindForget
	kindPrune
	kindTier
	kindCheck
	kindRebuild
	kindTick
	kindFaults
	kindPower
	kindCache
	kindJob
	kinds
)

// deed is what is done for a kind: it puts what it answers into an answer, and throws the error.
type deed func(r *Repo, c Cmd, a *Answer)

// deeds is what is done for each kind.
func deeds() [kinds]deed {
	return [kinds]deed{
		kindBackup:  (*Repo).backup,
		kindList:    (*Repo).list,
		kindRestore: (*Repo).restore,
		kindForget:  (*Repo).forget,
		kindPrune:   (*Repo).prune,
		kindTier:    (*Repo).tier,
		kindCheck:   (*Repo).check,
		kindRebuild: (*Repo).rebuild,
		kindTick:    (*Repo).tick,
		kindFaults:  (*Repo).faults,
		kindPower:   (*Repo).power,
		kindCache:   (*Repo).spoil,
		kindJob:     (*Repo).fail,
	}
}

// isSomebodys tells whether commands of a kind are somebody's.
func isSomebodys(kind int) bool {
	return kind <= kindRebuild
}

// isAlone tells whether a command of a kind wants the store for itself alone.
func isAlone(kind int) bool {
	return kind >= kindForget
}

// endsRestore tells whether behind a command of a kind a restore can't go on.
func endsRestore(kind int) bool {
	return isAlone(kind) && kind != kindCheck
}
