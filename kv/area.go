package kv

import (
	"concierge/api"
	"concierge/disk"
	"concierge/log"
)

// area is a half of a disk, and the log that was found in it with its records, if there is one.
type area struct {
	from    int // its first block
	log     *log.Log
	records [][]byte
}

// half returns the number of blocks of an area, which is also the first block of the second one.
func half(d *disk.Disk) int {
	return d.Blocks() / 2
}

// areasOf returns the areas of a disk.
func areasOf(d *disk.Disk) ([2]area, api.Errno) {
	areas := [2]area{{from: 0}, {from: half(d)}}
	for i, a := range areas {
		l, records, e := log.Open(d, a.from, half(d))
		if e != api.OK && e != api.ErrNone {
			return [2]area{}, e
		}
		areas[i].log, areas[i].records = l, records
	}
	return areas, api.OK
}

// newest returns the area whose log has the greatest generation, or the first one if none has a greater one. No log counts as the generation 0, which no log has.
func newest(areas [2]area) area {
	found := areas[0]
	for _, a := range areas {
		if a.log.Gen() > found.log.Gen() {
			found = a
		}
	}
	return found
}
