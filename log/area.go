package log

import (
	"concierge/api"
	"concierge/disk"
)

// area is consecutive blocks of a disk. Its blocks are numbered from 0, and its positions count their bytes.
type area struct {
	disk   *disk.Disk
	from   int // the disk's number of the first block
	blocks int
}

// valid reports whether there is a block in the area and all of them are blocks of the disk.
func (a area) valid() bool {
	return a.from >= 0 && a.blocks >= 1 && a.blocks <= a.disk.Blocks()-a.from
}

// read returns the bytes of the area.
func (a area) read() ([]byte, api.Errno) {
	b := make([]byte, 0, a.blocks*api.BlockSize)
	for i := range a.blocks {
		block, e := a.disk.Read(a.from + i)
		if e != api.OK {
			return nil, e
		}
		b = append(b, block...)
	}
	return b, api.OK
}

// write writes the bytes of a frame at a position. The block of the position comes last and alone: until it is durable, nothing at the position tells of the frame, and then all the rest of it is durable.
func (a area) write(position int, code []byte) api.Errno {
	first := position / api.BlockSize
	kept, e := a.before(position)
	if e != api.OK {
		return e
	}
	b := a.filled(first, append(kept, code...))
	if e := a.put(first+1, b[api.BlockSize:]); e != api.OK {
		return e
	}
	return a.put(first, b[:api.BlockSize])
}

// before returns what the block of a position holds before it, cut so that appending to it makes new memory and leaves the block that was read.
func (a area) before(position int) ([]byte, api.Errno) {
	n := position % api.BlockSize
	if n == 0 {
		return nil, api.OK // none of the block is kept
	}
	block, e := a.disk.Read(a.from + position/api.BlockSize)
	if e != api.OK {
		return nil, e
	}
	return block[:n:n], api.OK
}

// filled returns b, which begins with the block first, with zero bytes behind it up to the end of a block. There is at least one of them, unless the area ends there, so that what lies behind b begins no frame.
func (a area) filled(first int, b []byte) []byte {
	blocks := min(len(b)/api.BlockSize+1, a.blocks-first)
	return append(b, make([]byte, blocks*api.BlockSize-len(b))...)
}

// put writes whole blocks from the block i on and syncs them, if there are any.
func (a area) put(i int, b []byte) api.Errno {
	if len(b) == 0 {
		return api.OK
	}
	for k := range len(b) / api.BlockSize {
		part := b[k*api.BlockSize : (k+1)*api.BlockSize]
		if e := a.disk.Write(a.from+i+k, part); e != api.OK {
			return e
		}
	}
	return a.disk.Sync()
}
