package forget

import (
	"coldstore/backup"
	"coldstore/retain"
	"coldstore/snap"
)

// byHost is the places of each host's snapshots, rising: of a host alone, or ("") of every one.
func byHost(list []backup.Named, host string) map[string][]int {
	places := map[string][]int{}
	for at, n := range list {
		own := n.Snap.Host
		if host == "" || own == host {
			places[own] = append(places[own], at)
		}
	}
	return places
}

// gone is which of these places have snapshots that a policy doesn't keep, if there are no others.
func gone(list []backup.Named, places []int, p retain.Policy) []int {
	var snaps []snap.Snap
	for _, at := range places {
		snaps = append(snaps, list[at].Snap)
	}
	var found []int
	for i := range retain.Gone(snaps, p) {
		found = append(found, places[i])
	}
	return found
}
